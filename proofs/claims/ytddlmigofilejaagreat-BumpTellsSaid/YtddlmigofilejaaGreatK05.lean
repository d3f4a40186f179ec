/-
  Several texts in one.
-/
import Derived.Test.YtddlmigofilejaaGreatK04
import Derived.LaidEql
import Derived.Stop.Asserts
import Derived.RowKitTokens
import Derived.Lib.IfaceEq
import Derived.Laws.Pointers
import Derived.Lib.ItoaLen
import Derived.Deep.RegionHeld3
import Derived.Deep.RegionWith
import Derived.Laws.BitsLemmas
set_option maxRecDepth 100000
set_option maxHeartbeats 4000000
namespace Go.Proofs.YtddlmigofilejaaGreat
open Go.RowKit
open Go.Sort
open M
theorem all_snoc {α : Type} (p : α -> Bool) (l : List α) (j : Nat) (x : α) (h : l[j]? = some x) : (l.take (j + 1)).all p = ((l.take j).all p && p x) := by
  rw [List.take_add_one, h, List.all_append]; simp
def dec (n : Int) : ByteArray := ⟨(Lib.decDigits n.toNat).toArray⟩
end Go.Proofs.YtddlmigofilejaaGreat
namespace Go.Proofs.YtddlmigofilejaaGreat.M
def rowOf (L : List (List UInt8)) (ns : List ByteArray) : Nat -> List UInt8
  | 0 => []
  | k + 1 => (if 0 < k then rowOf L ns k ++ [44, 32] else rowOf L ns k) ++ (if 0 < ns.length then (nameAt ns k).data.toList ++ [58, 32] else []) ++ L.getD k []
def kindText (k : Int) (p : ByteArray) (m : Int) (d n : ByteArray) (ns : List ByteArray) (L : List (List UInt8)) : List UInt8 :=
  if k = 1 then [73, 110, 116]
  else if k = 2 then [84, 101, 120, 116]
  else if k = 3 then [66, 111, 111, 108]
  else if k = 4 then [76, 105, 115, 116, 40] ++ L.getD 0 [] ++ [41]
  else if k = 5 then [123] ++ rowOf L ns L.length ++ [125]
  else if k = 6 then [91] ++ rowOf L ns L.length ++ [93]
  else if k = 7 then [40] ++ rowOf L [] (L.length - 1) ++ [41, 32, 45, 62, 32] ++ L.getD (L.length - 1) []
  else if k = 9 then [60] ++ p.data.toList ++ [32] ++ (dec m).data.toList ++ [32] ++ d.data.toList ++ [32] ++ n.data.toList ++ [62]
  else if d.size = 0 then n.data.toList
  else d.data.toList ++ [46] ++ n.data.toList
mutual
def textT : Ty -> List UInt8
  | .mk k p m d n ns ss => kindText k p m d n ns (textsT ss)
def textsT : List Ty -> List (List UInt8)
  | [] => []
  | t :: r => textT t :: textsT r
end
theorem spell_len {f g : Int -> Bool} {s : ByteArray} (h : spell f g s.data.toList = true) : s.size <= 20 := by
  have := ((spell_iff _ _ _).1 h).2.1
  rwa [len_size] at this
theorem small_len {s : ByteArray} (h : smallB s.data.toList = true) : s.size <= 20 := by
  unfold smallB at h
  simp only [Bool.and_eq_true] at h;exact spell_len h.1
theorem great_len {s : ByteArray} (h : greatB s.data.toList = true) : s.size <= 20 := by
  unfold greatB at h
  simp only [Bool.and_eq_true] at h;exact spell_len h.1
theorem own_names {t : Ty} (h : ownOk t = true) (i : Nat) (hi : i < t.names.length) : (nameAt t.names i).size <= 20 := by
  unfold ownOk at h
  simp only [Bool.and_eq_true] at h;obtain ⟨⟨-, hn⟩, hs⟩ := h;have hb := (namesOk_iff _ _).1 hn i hi;unfold badName at hb
  simp only [Bool.or_eq_false_iff, Bool.and_eq_false_iff, Bool.not_eq_false'] at hb;obtain ⟨⟨h5, h6⟩, -⟩ := hb;by_cases k5 : t.kind = 5
  · rcases h5 with h5 | h5
    · rw [k5] at h5; cases h5
    · exact small_len h5
  by_cases k6 : t.kind = 6
  · rcases h6 with h6 | h6
    · rw [k6] at h6; cases h6
    · exact great_len h6
  exfalso
  unfold shapeOk at hs
  simp only [k5, k6, if_false] at hs;have h0 : t.names.length ≠ 0 := by omega
  (repeat' split at hs) <;> simp_all
end Go.Proofs.YtddlmigofilejaaGreat.M
namespace Go.Proofs.YtddlmigofilejaaGreat.M
open Go
def alnum (c : UInt8) : Bool := anyC (c.toNat : Int)
def Word (l : List UInt8) : Prop := ∀ c ∈ l, alnum c = true
def Halt (l : List UInt8) : Prop := ∀ c r, l = c :: r -> alnum c = false
theorem halt_cons {c : UInt8} {r : List UInt8} (h : alnum c = false) : Halt (c :: r) := fun a s e => by
  simp only [List.cons.injEq] at e;rw [<- e.1]; exact h
theorem word_all {g : Int -> Bool} {f : Int -> Bool} {s : ByteArray} (hf : ∀ n, f n = true -> anyC n = true) (hg : ∀ n, g n = true -> anyC n = true) (h : spell f g s.data.toList = true) : Word s.data.toList := by
  intro c hc;obtain ⟨j, hj, rfl⟩ := List.getElem_of_mem hc;obtain ⟨h0, h1, h2, h3⟩ := (spell_iff _ _ _).1 h;have e : bt s.data.toList j = (((s.data.toList)[j]).toNat : Int) := by unfold bt; rw [List.getD_eq_getElem?_getD, List.getElem?_eq_getElem hj]; rfl
  unfold alnum
  rw [<- e];rcases Nat.eq_zero_or_pos j with h' | h'
  · subst h'; exact hf _ h2
  · exact hg _ (h3 j h' hj)
theorem low_any' (n : Int) (h : lowC n = true) : anyC n = true := by unfold anyC; rw [h]; rfl
theorem up_any' (n : Int) (h : upC n = true) : anyC n = true := by unfold anyC; rw [h]; simp
theorem lowDig_any' (n : Int) (h : lowDigC n = true) : anyC n = true := by
  unfold lowDigC at h; unfold anyC
  rcases Bool.or_eq_true _ _ ▸ h with h | h <;> rw [h] <;> simp
theorem small_spell {s : ByteArray} (h : smallB s.data.toList = true) : spell lowC lowDigC s.data.toList = true := by
  unfold smallB at h; simp only [Bool.and_eq_true] at h; exact h.1
theorem great_spell {s : ByteArray} (h : greatB s.data.toList = true) : spell upC anyC s.data.toList = true := by
  unfold greatB at h; simp only [Bool.and_eq_true] at h; exact h.1
theorem small_word {s : ByteArray} (h : smallB s.data.toList = true) : Word s.data.toList := word_all low_any' lowDig_any' (small_spell h)
theorem great_word {s : ByteArray} (h : greatB s.data.toList = true) : Word s.data.toList := word_all up_any' (fun _ h => h) (great_spell h)
theorem spell_ne {f g : Int -> Bool} {l : List UInt8} (h : spell f g l = true) : l ≠ [] := by
  intro e; subst e
  have := ((spell_iff _ _ _).1 h).1
  simp at this
theorem great_not_word {l : List UInt8} (h : greatB l = true) : l ∉ words := by
  unfold greatB wordB at h
  simp only [Bool.and_eq_true, Bool.not_eq_true', List.contains_eq_mem, decide_eq_false_iff_not] at h;exact h.2
theorem small_not_word {l : List UInt8} (h : smallB l = true) : l ∉ words := by
  intro hm
  have h1 : 97 <= bt l 0 := by
    unfold smallB at h
    simp only [Bool.and_eq_true, spell_iff] at h;have := h.1.2.2.1
    unfold lowC at this
    simp only [Bool.and_eq_true, decide_eq_true_eq] at this;exact this.1
  have h2 : ∀ l ∈ words, bt l 0 < 97 := by decide
  have := h2 l hm
  omega
def Stop (l : List UInt8) : Prop := ∀ c r, l = c :: r -> c = 41 \/ c = 44 \/ c = 125 \/ c = 93
theorem Stop.halt {l : List UInt8} (h : Stop l) : Halt l := fun c r e => by
  rcases h c r e with rfl | rfl | rfl | rfl <;> decide
end Go.Proofs.YtddlmigofilejaaGreat.M
namespace Go.Proofs.YtddlmigofilejaaGreat.M
open Go
theorem empty_bytes {s : ByteArray} (h : s.size = 0) : s = ⟨#[]⟩ := by
  apply bytes_list.1
  exact List.length_eq_zero_iff.1 (by rw [len_size]; exact h)
theorem empty_is : (⟨#[]⟩ : ByteArray) = ByteArray.empty := rfl
theorem no_more {t : Ty} (h : noMore t = true) : t.pkg = ⟨#[]⟩ /\ t.major = 0 /\ t.mod = ⟨#[]⟩ /\ t.name = ⟨#[]⟩ := by
  unfold noMore emptyB at h
  simp only [Bool.and_eq_true, decide_eq_true_eq, beq_iff_eq] at h;exact ⟨empty_bytes h.1.1.1, h.1.1.2, empty_bytes h.1.2, empty_bytes h.2⟩
theorem forms (t : Ty) (h : ownOk t = true) :
    (∃ k, (k = 1 \/ k = 2 \/ k = 3) /\ t = .mk k ⟨#[]⟩ 0 ⟨#[]⟩ ⟨#[]⟩ [] []) \/ (∃ s, t = .mk 4 ⟨#[]⟩ 0 ⟨#[]⟩ ⟨#[]⟩ [] [s]) \/
    (∃ ns ss, t = .mk 5 ⟨#[]⟩ 0 ⟨#[]⟩ ⟨#[]⟩ ns ss /\ ss.length = ns.length /\ ∀ i, i < ns.length -> smallB (nameAt ns i).data.toList = true) \/
    (∃ ns ss, t = .mk 6 ⟨#[]⟩ 0 ⟨#[]⟩ ⟨#[]⟩ ns ss /\ ss.length = ns.length /\ ∀ i, i < ns.length -> greatB (nameAt ns i).data.toList = true) \/
    (∃ ss, t = .mk 7 ⟨#[]⟩ 0 ⟨#[]⟩ ⟨#[]⟩ [] ss /\ 0 < ss.length) \/
    (∃ d n, t = .mk 8 ⟨#[]⟩ 0 d n [] [] /\ greatB n.data.toList = true /\ (smallB d.data.toList = true \/ d = ⟨#[]⟩)) \/
    (∃ p m d n, t = .mk 9 p m d n [] [] /\ smallB p.data.toList = true /\ smallB d.data.toList = true /\ greatB n.data.toList = true /\ 1 <= m) := by
  unfold ownOk at h
  simp only [Bool.and_eq_true] at h;obtain ⟨⟨-, hn⟩, hs⟩ := h;have hbad := (namesOk_iff _ _).1 hn;unfold shapeOk at hs
  by_cases k1 : t.kind = 1 \/ t.kind = 2 \/ t.kind = 3
  · rw [if_pos k1] at hs
    simp only [Bool.and_eq_true, decide_eq_true_eq] at hs;obtain ⟨e1, e2, e3, e4⟩ := no_more hs.1.1;exact .inl ⟨t.kind, k1, ty_ext rfl e1 e2 e3 e4 (List.length_eq_zero_iff.1 hs.2) (List.length_eq_zero_iff.1 hs.1.2)⟩
  rw [if_neg k1] at hs;by_cases k4 : t.kind = 4
  · rw [if_pos k4] at hs
    simp only [Bool.and_eq_true, decide_eq_true_eq] at hs;obtain ⟨e1, e2, e3, e4⟩ := no_more hs.1.1;obtain ⟨s, es⟩ := List.length_eq_one_iff.1 hs.1.2;exact .inr (.inl ⟨s, ty_ext k4 e1 e2 e3 e4 (List.length_eq_zero_iff.1 hs.2) es⟩)
  rw [if_neg k4] at hs;by_cases k5 : t.kind = 5
  · rw [if_pos k5] at hs
    simp only [Bool.and_eq_true, decide_eq_true_eq] at hs;obtain ⟨e1, e2, e3, e4⟩ := no_more hs.1;refine .inr (.inr (.inl ⟨t.names, t.subs, ty_ext k5 e1 e2 e3 e4 rfl rfl, hs.2, fun i hi => ?_⟩));have := hbad i hi
    unfold badName at this
    rw [k5] at this;simp only [Bool.or_eq_false_iff, Bool.and_eq_false_iff, Bool.not_eq_false'] at this;rcases this.1.1 with a | a
    · simp at a
    · exact a
  rw [if_neg k5] at hs;by_cases k6 : t.kind = 6
  · rw [if_pos k6] at hs
    simp only [Bool.and_eq_true, decide_eq_true_eq] at hs;obtain ⟨e1, e2, e3, e4⟩ := no_more hs.1.1;refine .inr (.inr (.inr (.inl ⟨t.names, t.subs, ty_ext k6 e1 e2 e3 e4 rfl rfl, hs.1.2, fun i hi => ?_⟩)));have := hbad i hi
    unfold badName at this
    rw [k6] at this;simp only [Bool.or_eq_false_iff, Bool.and_eq_false_iff, Bool.not_eq_false'] at this;rcases this.1.2 with a | a
    · simp at a
    · exact a
  rw [if_neg k6] at hs;by_cases k7 : t.kind = 7
  · rw [if_pos k7] at hs
    simp only [Bool.and_eq_true, decide_eq_true_eq] at hs;obtain ⟨e1, e2, e3, e4⟩ := no_more hs.1.1;exact .inr (.inr (.inr (.inr (.inl ⟨t.subs, ty_ext k7 e1 e2 e3 e4 (List.length_eq_zero_iff.1 hs.2) rfl, hs.1.2⟩))))
  rw [if_neg k7] at hs;by_cases k8 : t.kind = 8
  · rw [if_pos k8] at hs
    unfold emptyB at hs
    simp only [Bool.and_eq_true, Bool.or_eq_true, decide_eq_true_eq, beq_iff_eq] at hs;obtain ⟨⟨⟨⟨⟨a, b⟩, c⟩, e⟩, f⟩, g⟩ := hs;exact .inr (.inr (.inr (.inr (.inr (.inl ⟨t.mod, t.name, ty_ext k8 (empty_bytes c) e rfl rfl (List.length_eq_zero_iff.1 b) (List.length_eq_zero_iff.1 a), f, g.imp id empty_bytes⟩)))))
  rw [if_neg k8] at hs;by_cases k9 : t.kind = 9
  · rw [if_pos k9] at hs
    simp only [Bool.and_eq_true, decide_eq_true_eq] at hs;obtain ⟨⟨⟨⟨⟨⟨a, b⟩, c⟩, e⟩, f⟩, g⟩, -⟩ := hs;exact .inr (.inr (.inr (.inr (.inr (.inr ⟨t.pkg, t.major, t.mod, t.name, ty_ext k9 rfl rfl rfl rfl (List.length_eq_zero_iff.1 b) (List.length_eq_zero_iff.1 a), c, e, f, g⟩)))))
  rw [if_neg k9] at hs;cases hs
def tag (w r : List UInt8) : Int :=
  if w = [73, 110, 116] then 1 else if w = [84, 101, 120, 116] then 2 else if w = [66, 111, 111, 108] then 3 else if w = [76, 105, 115, 116] then 4
  else if w = [] then (if r.head? = some 123 then 5 else if r.head? = some 91 then 6 else if r.head? = some 40 then 7 else 9) else 8
theorem tag_name {l r : List UInt8} (h : l ≠ []) (hw : l ∉ words) : tag l r = 8 := by
  have h1 : l ≠ [73, 110, 116] := fun e => hw (by rw [e]; decide)
  have h2 : l ≠ [84, 101, 120, 116] := fun e => hw (by rw [e]; decide)
  have h3 : l ≠ [66, 111, 111, 108] := fun e => hw (by rw [e]; decide)
  have h4 : l ≠ [76, 105, 115, 116] := fun e => hw (by rw [e]; decide)
  unfold tag
  rw [if_neg h1, if_neg h2, if_neg h3, if_neg h4, if_neg h]
theorem split (t : Ty) (h : ownOk t = true) : ∃ w r, textT t = w ++ r /\ Word w /\ ∀ x, Stop x -> Halt (r ++ x) /\ tag w (r ++ x) = t.kind := by
  rcases forms t h with ⟨k, hk, rfl⟩ | ⟨s, rfl⟩ | ⟨ns, ss, rfl, -, -⟩ | ⟨ns, ss, rfl, -, -⟩ | ⟨ss, rfl, -⟩ | ⟨d, n, rfl, hn, hd⟩ | ⟨p, m, d, n, rfl, hp, hd, hn, hm⟩
  · rcases hk with rfl | rfl | rfl
    · exact ⟨[73, 110, 116], [], rfl, by unfold Word; decide, fun x hx => ⟨by simpa using hx.halt, rfl⟩⟩
    · exact ⟨[84, 101, 120, 116], [], rfl, by unfold Word; decide, fun x hx => ⟨by simpa using hx.halt, rfl⟩⟩
    · exact ⟨[66, 111, 111, 108], [], rfl, by unfold Word; decide, fun x hx => ⟨by simpa using hx.halt, rfl⟩⟩
  · exact ⟨[76, 105, 115, 116], [40] ++ textT s ++ [41], by simp [textT, kindText, textsT], by unfold Word; decide, fun x hx => ⟨halt_cons (by decide), rfl⟩⟩
  · exact ⟨[], _, (List.nil_append _).symm, by unfold Word; decide, fun x hx => by simp only [textT, kindText]; exact ⟨halt_cons (by decide), rfl⟩⟩
  · exact ⟨[], _, (List.nil_append _).symm, by unfold Word; decide, fun x hx => by simp only [textT, kindText]; exact ⟨halt_cons (by decide), rfl⟩⟩
  · exact ⟨[], _, (List.nil_append _).symm, by unfold Word; decide, fun x hx => by simp only [textT, kindText]; exact ⟨halt_cons (by decide), rfl⟩⟩
  · rcases hd with hd | rfl
    · have hne := spell_ne (small_spell hd)
      have hz : d.size ≠ 0 := fun e => hne (List.length_eq_zero_iff.1 (by rw [len_size]; exact e))
      exact ⟨d.data.toList, [46] ++ n.data.toList, by simp [textT, kindText, hz], small_word hd, fun x hx => ⟨halt_cons (by decide), tag_name hne (small_not_word hd)⟩⟩
    · exact ⟨n.data.toList, [], by simp [textT, kindText, empty_is], great_word hn, fun x hx => ⟨by simpa using hx.halt, tag_name (spell_ne (great_spell hn)) (great_not_word hn)⟩⟩
  · exact ⟨[], _, (List.nil_append _).symm, by unfold Word; decide, fun x hx => by simp only [textT, kindText]; exact ⟨halt_cons (by decide), rfl⟩⟩
end Go.Proofs.YtddlmigofilejaaGreat.M
namespace Go.Proofs.YtddlmigofilejaaGreat.M
open Go
end Go.Proofs.YtddlmigofilejaaGreat.M
namespace Go.Proofs.YtddlmigofilejaaGreat
open Go.RowKit
open M
def localOk (t : Ty) : Bool := emptyB t.pkg && (t.major == 0) && (emptyB t.mod || smallB t.mod.data.toList) && greatB t.name.data.toList
def openOk (t : Ty) : Bool := smallB t.pkg.data.toList && decide (1 <= t.major) && decide (t.major <= 999999999) && smallB t.mod.data.toList && greatB t.name.data.toList
def badFor (f : List UInt8 -> Bool) (names : List ByteArray) (i : Nat) : Bool := !f (nameAt names i).data.toList || (decide (0 < i) && leS (nameAt names i) (nameAt names (i - 1)))
def risingB (f : List UInt8 -> Bool) (names : List ByteArray) : Bool := (List.range names.length).all fun i => !badFor f names i
theorem rising_iff (f : List UInt8 -> Bool) (names : List ByteArray) : risingB f names = true ↔ ∀ i, i < names.length -> badFor f names i = false := by
 unfold risingB
 simp [List.all_eq_true]
theorem rising_no {f : List UInt8 -> Bool} {names : List ByteArray} {i : Nat} (hi : i < names.length) (h : badFor f names i = true) : risingB f names = false := by
 rw [Bool.eq_false_iff, ne_eq, rising_iff]
 intro a
 have := a i hi
 rw [h] at this; cases this
theorem leL : ∀ x y : List UInt8, (Op.bytesLess x y || x == y) = !Op.bytesLess y x
 | [], [] => rfl
 | [], b :: y => by simp [Op.bytesLess]
 | a :: x, [] => by simp [Op.bytesLess]
 | a :: x, b :: y => by
  have ih := leL x y;simp only [Op.bytesLess, List.cons_beq_cons];rcases Nat.lt_trichotomy a.toNat b.toNat with h | h | h
  ·have h1 : a < b := h
   have h2 : ¬ b < a := by intro (c : b.toNat < a.toNat); omega
   have h3 : (b == a) = false := by simp; intro e; subst e; exact absurd h (Nat.lt_irrefl _)
   simp [h1, h2, h3]
  ·have e : a = b := UInt8.toNat_inj.1 h
   subst e;have h1 : ¬ a < a := by intro (c : a.toNat < a.toNat); omega
   simp [h1, ih]
  ·have h1 : b < a := h
   have h2 : ¬ a < b := by intro (c : a.toNat < b.toNat); omega
   have h3 : (a == b) = false := by simp; intro e; subst e; exact absurd h (Nat.lt_irrefl _)
   simp [h1, h2, h3]
theorem leS_eq (a b : ByteArray) : leS a b = !Op.bytesLess b.toList a.toList := leL _ _
theorem names_small (names : List ByteArray) : namesOk 5 names = risingB smallB names := by
 have e : (fun i => !badName 5 names i) = (fun i => !badFor smallB names i) := by funext i; simp [badName, badFor]
 unfold namesOk risingB; rw [e]
theorem names_great (names : List ByteArray) : namesOk 6 names = risingB greatB names := by
 have e : (fun i => !badName 6 names i) = (fun i => !badFor greatB names i) := by funext i; simp [badName, badFor]
 unfold namesOk risingB; rw [e]
theorem names_none (k : Int) {names : List ByteArray} (h : names.length = 0) : namesOk k names = true := by
 unfold namesOk; rw [h]; rfl
def formT (t : Ty) : Bool :=
 if t.kind = 1 \/ t.kind = 2 \/ t.kind = 3 then decide (t.subs.length = 0) && decide (t.names.length = 0) && noMore t
 else if t.kind = 4 then decide (t.subs.length = 1) && decide (t.names.length = 0) && noMore t
 else if t.kind = 5 then decide (t.subs.length <= 20) && decide (t.names.length = t.subs.length) && risingB smallB t.names && noMore t
 else if t.kind = 6 then decide (1 <= t.subs.length) && decide (t.subs.length <= 20) && decide (t.names.length = t.subs.length) && risingB greatB t.names && noMore t
 else if t.kind = 7 then decide (1 <= t.subs.length) && decide (t.subs.length <= 20) && decide (t.names.length = 0) && noMore t
 else if t.kind = 8 then decide (t.subs.length = 0) && decide (t.names.length = 0) && localOk t
 else if t.kind = 9 then decide (t.subs.length = 0) && decide (t.names.length = 0) && openOk t
 else false
def formW (t : Ty) (n q : Nat) : Bool :=
 if t.kind = 1 \/ t.kind = 2 \/ t.kind = 3 then decide (n = 0) && decide (q = 0) && noMore t
 else if t.kind = 4 then decide (n = 1) && decide (q = 0) && noMore t
 else if t.kind = 5 then decide (n <= 20) && decide (q = n) && risingB smallB t.names && noMore t
 else if t.kind = 6 then decide (1 <= n) && decide (n <= 20) && decide (q = n) && risingB greatB t.names && noMore t
 else if t.kind = 7 then decide (1 <= n) && decide (n <= 20) && decide (q = 0) && noMore t
 else if t.kind = 8 then decide (n = 0) && decide (q = 0) && localOk t
 else if t.kind = 9 then decide (n = 0) && decide (q = 0) && openOk t
 else false
theorem formT_w (t : Ty) : formT t = formW t t.subs.length t.names.length := rfl
theorem formT_own (t : Ty) : formT t = ownOk t := by
 unfold formT ownOk shapeOk localOk openOk
 by_cases h : t.kind = 1 \/ t.kind = 2 \/ t.kind = 3
 ·simp only [if_pos h]
  by_cases h0 : t.names.length = 0
  ·rw [names_none _ h0, Bool.eq_iff_iff]; simp [h0] <;> (constructor <;> (intro a; simp_all))
  ·rw [Bool.eq_iff_iff]; simp [h0]
 simp only [if_neg h]
 by_cases h4 : t.kind = 4
 ·simp only [if_pos h4]
  by_cases h0 : t.names.length = 0
  ·rw [names_none _ h0, Bool.eq_iff_iff]; simp [h0] <;> (constructor <;> (intro a; simp_all))
  ·rw [Bool.eq_iff_iff]; simp [h0]
 simp only [if_neg h4]
 by_cases h5 : t.kind = 5
 ·simp only [if_pos h5]
  rw [h5, names_small];rw [Bool.eq_iff_iff]; simp only [Bool.and_eq_true, decide_eq_true_eq]
  constructor
  ·rintro ⟨⟨⟨a, b⟩, c⟩, d⟩; exact ⟨⟨a, c⟩, d, b.symm⟩
  ·rintro ⟨⟨a, c⟩, d, b⟩; exact ⟨⟨⟨a, b.symm⟩, c⟩, d⟩
 simp only [if_neg h5]
 by_cases h6 : t.kind = 6
 ·simp only [if_pos h6]
  rw [h6, names_great];rw [Bool.eq_iff_iff]; simp only [Bool.and_eq_true, decide_eq_true_eq]
  constructor
  ·rintro ⟨⟨⟨⟨e, a⟩, b⟩, c⟩, d⟩; exact ⟨⟨a, c⟩, ⟨d, b.symm⟩, by omega⟩
  ·rintro ⟨⟨a, c⟩, ⟨d, b⟩, e⟩; exact ⟨⟨⟨⟨by omega, a⟩, b.symm⟩, c⟩, d⟩
 simp only [if_neg h6]
 by_cases h7 : t.kind = 7
 ·simp only [if_pos h7]
  by_cases h0 : t.names.length = 0
  ·rw [names_none _ h0, Bool.eq_iff_iff]; simp only [Bool.and_eq_true, decide_eq_true_eq]
   constructor
   ·rintro ⟨⟨⟨e, a⟩, b⟩, d⟩; exact ⟨⟨a, trivial⟩, ⟨d, by omega⟩, h0⟩
   ·rintro ⟨⟨a, c⟩, ⟨d, b⟩, e⟩; exact ⟨⟨⟨by omega, a⟩, h0⟩, d⟩
  ·rw [Bool.eq_iff_iff]; simp [h0]
 simp only [if_neg h7]
 by_cases h8 : t.kind = 8
 ·simp only [if_pos h8]
  by_cases h0 : t.names.length = 0
  ·rw [names_none _ h0, Bool.eq_iff_iff]; simp only [Bool.and_eq_true, Bool.or_eq_true, decide_eq_true_eq]
   constructor
   ·rintro ⟨⟨a, b⟩, ⟨⟨c, d⟩, e⟩, f⟩; exact ⟨⟨by omega, trivial⟩, ⟨⟨⟨⟨a, h0⟩, c⟩, d⟩, f⟩, e.symm⟩
   ·rintro ⟨-, ⟨⟨⟨⟨a, b⟩, c⟩, d⟩, f⟩, e⟩; exact ⟨⟨a, h0⟩, ⟨⟨c, d⟩, e.symm⟩, f⟩
  ·rw [Bool.eq_iff_iff]; simp [h0]
 simp only [if_neg h8]
 by_cases h9 : t.kind = 9
 ·simp only [if_pos h9]
  by_cases h0 : t.names.length = 0
  ·rw [names_none _ h0, Bool.eq_iff_iff]; simp only [Bool.and_eq_true, decide_eq_true_eq]
   constructor
   ·rintro ⟨⟨a, b⟩, ⟨⟨⟨c, d⟩, e⟩, f⟩, g⟩; exact ⟨⟨by omega, trivial⟩, ⟨⟨⟨⟨⟨⟨a, h0⟩, c⟩, f⟩, g⟩, d⟩, e⟩⟩
   ·rintro ⟨-, ⟨⟨⟨⟨⟨a, b⟩, c⟩, f⟩, g⟩, d⟩, e⟩; exact ⟨⟨a, h0⟩, ⟨⟨⟨c, d⟩, e⟩, f⟩, g⟩
  ·rw [Bool.eq_iff_iff]; simp [h0]
 ·simp only [if_neg h9]; simp
theorem nameAt_of0 {l : List ByteArray} {i : Nat} {s : ByteArray} (h : l[i]? = some s) : nameAt l i = s := by
 unfold nameAt; rw [List.getD_eq_getElem?_getD, h]; rfl
theorem unnamed_any (t : Ty) (v : Value) (w : World) (hv : TyV w v t) :
  Calls Tryz.prog 160 #[v] w fun e w' => e = .returned (.bool (noMore t)) /\ Below w.heap.size w w' := by
 obtain ⟨l, rfl, hT⟩ := hv
 obtain ⟨An, cn, As, cs, rfl, zp, zm, za, hzn, hz, hN, -⟩ := hT.parts
 clear hT hN
 by_cases e1 : t.pkg.size = 0
 ·obtain ⟨x1, y1⟩ := empty_facts _ e1
  rcases hid_or (t.major == 0) with e2 | e2
  ·have d2 := e2.out
   have R : noMore t = false := by
    unfold noMore emptyB
    simp [d2]
   rw [R];clear R;as_aux_lemma =>
   go_enter Tryz.func160, Tryz.ntmps160
   go_wp2_with fail
   go_ret;exact ⟨rfl, below_new (Below.refl _ _) _⟩
  ·have d2 := e2.out
   by_cases e3 : t.mod.size = 0
   ·obtain ⟨x3, y3⟩ := empty_facts _ e3
    by_cases e4 : t.name.size = 0
    ·obtain ⟨x4, y4⟩ := empty_facts _ e4
     have R : noMore t = true := by
      unfold noMore emptyB
      simp [e1, d2, e3, e4]
     rw [R];clear R;as_aux_lemma =>
     go_enter Tryz.func160, Tryz.ntmps160
     go_wp2_with fail
     go_ret;exact ⟨rfl, below_new (Below.refl _ _) _⟩
    ·obtain ⟨x4, y4⟩ := full_facts _ e4
     have R : noMore t = false := by
      unfold noMore emptyB
      simp [e4]
     rw [R];clear R;as_aux_lemma =>
     go_enter Tryz.func160, Tryz.ntmps160
     go_wp2_with fail
     go_ret;exact ⟨rfl, below_new (Below.refl _ _) _⟩
   ·obtain ⟨x3, y3⟩ := full_facts _ e3
    have R : noMore t = false := by
     unfold noMore emptyB
     simp [e3]
    rw [R];clear R;as_aux_lemma =>
    go_enter Tryz.func160, Tryz.ntmps160
    go_wp2_with fail
    go_ret;exact ⟨rfl, below_new (Below.refl _ _) _⟩
 ·obtain ⟨x1, y1⟩ := full_facts _ e1
  have R : noMore t = false := by
   unfold noMore emptyB
   simp [e1]
  rw [R];clear R;as_aux_lemma =>
  go_enter Tryz.func160, Tryz.ntmps160
  go_wp2_with fail
  go_ret;exact ⟨rfl, below_new (Below.refl _ _) _⟩
theorem mayLocal_any (t : Ty) (v : Value) (w : World) (hv : TyV w v t) :
  Calls Tryz.prog 162 #[v] w fun e w' => e = .returned (.bool (localOk t)) /\ Below w.heap.size w w' := by
 obtain ⟨l, rfl, hT⟩ := hv
 obtain ⟨An, cn, As, cs, rfl, zp, zm, za, hzn, hz, hN, -⟩ := hT.parts
 clear hT hN
 by_cases e1 : t.pkg.size = 0
 ·obtain ⟨x1, y1⟩ := empty_facts _ e1
  rcases hid_or (t.major == 0) with e2 | e2
  ·have d2 := e2.out
   have R : Hid (localOk t = false) := hZ (by
    unfold localOk emptyB
    simp [d2])
   rw [R.out];clear R;as_aux_lemma =>
   go_enter Tryz.func162, Tryz.ntmps162
   go_wp2_with fail
   go_ret;exact ⟨rfl, below_new (Below.refl _ _) _⟩
  ·have d2 := e2.out
   by_cases e3 : t.mod.size = 0
   ·obtain ⟨x3, y3⟩ := empty_facts _ e3
    rcases hid_or (greatB t.name.data.toList) with g1 | g1
    ·skip
     have R : Hid (localOk t = false) := hZ (by
      unfold localOk emptyB
      simp [e1, d2, e3, g1.out])
     rw [R.out];clear R;as_aux_lemma =>
     go_enter Tryz.func162, Tryz.ntmps162
     go_wp2_with fail
     refine (great_any _ _ za).mono ?_; rintro e w2 ⟨rfl, rfl⟩; rw [g1.out]
     go_wp2_with fail
     go_ret;exact ⟨rfl, below_new (Below.refl _ _) _⟩
    ·skip
     have R : Hid (localOk t = true) := hZ (by
      unfold localOk emptyB
      simp [e1, d2, e3, g1.out])
     rw [R.out];clear R;as_aux_lemma =>
     go_enter Tryz.func162, Tryz.ntmps162
     go_wp2_with fail
     refine (great_any _ _ za).mono ?_; rintro e w2 ⟨rfl, rfl⟩; rw [g1.out]
     go_wp2_with fail
     go_ret;exact ⟨rfl, below_new (Below.refl _ _) _⟩
   ·obtain ⟨x3, y3⟩ := full_facts _ e3
    rcases hid_or (smallB t.mod.data.toList) with s1 | s1
    ·skip
     have R : Hid (localOk t = false) := hZ (by
      unfold localOk emptyB
      simp [e3, s1.out])
     rw [R.out];clear R;as_aux_lemma =>
     go_enter Tryz.func162, Tryz.ntmps162
     go_wp2_with fail
     refine (small_any _ _ zm).mono ?_; rintro e w1 ⟨rfl, rfl⟩; rw [s1.out]
     go_wp2_with fail
     go_ret;exact ⟨rfl, below_new (Below.refl _ _) _⟩
    ·skip
     rcases hid_or (greatB t.name.data.toList) with g1 | g1
     ·skip
      have R : Hid (localOk t = false) := hZ (by
       unfold localOk emptyB
       simp [e1, d2, e3, s1.out, g1.out])
      rw [R.out];clear R;as_aux_lemma =>
      go_enter Tryz.func162, Tryz.ntmps162
      go_wp2_with fail
      refine (small_any _ _ zm).mono ?_; rintro e w1 ⟨rfl, rfl⟩; rw [s1.out]
      go_wp2_with fail
      refine (great_any _ _ za).mono ?_; rintro e w2 ⟨rfl, rfl⟩; rw [g1.out]
      go_wp2_with fail
      go_ret;exact ⟨rfl, below_new (Below.refl _ _) _⟩
     ·skip
      have R : Hid (localOk t = true) := hZ (by
       unfold localOk emptyB
       simp [e1, d2, e3, s1.out, g1.out])
      rw [R.out];clear R;as_aux_lemma =>
      go_enter Tryz.func162, Tryz.ntmps162
      go_wp2_with fail
      refine (small_any _ _ zm).mono ?_; rintro e w1 ⟨rfl, rfl⟩; rw [s1.out]
      go_wp2_with fail
      refine (great_any _ _ za).mono ?_; rintro e w2 ⟨rfl, rfl⟩; rw [g1.out]
      go_wp2_with fail
      go_ret;exact ⟨rfl, below_new (Below.refl _ _) _⟩
 ·obtain ⟨x1, y1⟩ := full_facts _ e1
  have R : Hid (localOk t = false) := hZ (by
   unfold localOk emptyB
   simp [e1])
  rw [R.out];clear R;as_aux_lemma =>
  go_enter Tryz.func162, Tryz.ntmps162
  go_wp2_with fail
  go_ret;exact ⟨rfl, below_new (Below.refl _ _) _⟩
theorem mayOpen_any (t : Ty) (v : Value) (w : World) (hv : TyV w v t) :
  Calls Tryz.prog 163 #[v] w fun e w' => e = .returned (.bool (openOk t)) /\ Below w.heap.size w w' := by
 obtain ⟨l, rfl, hT⟩ := hv
 obtain ⟨An, cn, As, cs, rfl, zp, zm, za, hzn, hz, hN, -⟩ := hT.parts
 clear hT hN
 rcases hid_or (smallB t.pkg.data.toList) with s1 | s1
 ·skip
  have R : Hid (openOk t = false) := hZ (by
   unfold openOk
   simp [s1.out])
  rw [R.out];clear R;as_aux_lemma =>
  go_enter Tryz.func163, Tryz.ntmps163
  go_wp2_with fail
  refine (small_any _ _ zp).mono ?_; rintro e w1 ⟨rfl, rfl⟩; rw [s1.out]
  go_wp2_with fail
  go_ret;exact ⟨rfl, below_new (Below.refl _ _) _⟩
 ·by_cases l1 : 1 <= t.major
  ·by_cases l2 : t.major <= 999999999
   ·rcases hid_or (smallB t.mod.data.toList) with s2 | s2
    ·skip
     have R : Hid (openOk t = false) := hZ (by
      unfold openOk
      simp [s2.out])
     rw [R.out];clear R;as_aux_lemma =>
     go_enter Tryz.func163, Tryz.ntmps163
     go_wp2_with fail
     refine (small_any _ _ zp).mono ?_; rintro e w1 ⟨rfl, rfl⟩; rw [s1.out]
     go_wp2_with fail
     refine (small_any _ _ zm).mono ?_; rintro e w2 ⟨rfl, rfl⟩; rw [s2.out]
     go_wp2_with fail
     go_ret;exact ⟨rfl, below_new (Below.refl _ _) _⟩
    ·rcases hid_or (greatB t.name.data.toList) with g1 | g1
     ·skip
      have R : Hid (openOk t = false) := hZ (by
       unfold openOk
       simp [g1.out])
      rw [R.out];clear R;as_aux_lemma =>
      go_enter Tryz.func163, Tryz.ntmps163
      go_wp2_with fail
      refine (small_any _ _ zp).mono ?_; rintro e w1 ⟨rfl, rfl⟩; rw [s1.out]
      go_wp2_with fail
      refine (small_any _ _ zm).mono ?_; rintro e w2 ⟨rfl, rfl⟩; rw [s2.out]
      go_wp2_with fail
      refine (great_any _ _ za).mono ?_; rintro e w3 ⟨rfl, rfl⟩; rw [g1.out]
      go_wp2_with fail
      go_ret;exact ⟨rfl, below_new (Below.refl _ _) _⟩
     ·skip
      have R : Hid (openOk t = true) := hZ (by
       unfold openOk
       simp [s1.out, l1, l2, s2.out, g1.out])
      rw [R.out];clear R;as_aux_lemma =>
      go_enter Tryz.func163, Tryz.ntmps163
      go_wp2_with fail
      refine (small_any _ _ zp).mono ?_; rintro e w1 ⟨rfl, rfl⟩; rw [s1.out]
      go_wp2_with fail
      refine (small_any _ _ zm).mono ?_; rintro e w2 ⟨rfl, rfl⟩; rw [s2.out]
      go_wp2_with fail
      refine (great_any _ _ za).mono ?_; rintro e w3 ⟨rfl, rfl⟩; rw [g1.out]
      go_wp2_with fail
      go_ret;exact ⟨rfl, below_new (Below.refl _ _) _⟩
   ·skip
    have R : Hid (openOk t = false) := hZ (by
     unfold openOk
     simp [l2])
    rw [R.out];clear R;as_aux_lemma =>
    go_enter Tryz.func163, Tryz.ntmps163
    go_wp2_with fail
    refine (small_any _ _ zp).mono ?_; rintro e w1 ⟨rfl, rfl⟩; rw [s1.out]
    go_wp2_with fail
    go_ret;exact ⟨rfl, below_new (Below.refl _ _) _⟩
  ·skip
   have R : Hid (openOk t = false) := hZ (by
    unfold openOk
    simp [l1])
   rw [R.out];clear R;as_aux_lemma =>
   go_enter Tryz.func163, Tryz.ntmps163
   go_wp2_with fail
   refine (small_any _ _ zp).mono ?_; rintro e w1 ⟨rfl, rfl⟩; rw [s1.out]
   go_wp2_with fail
   go_ret;exact ⟨rfl, below_new (Below.refl _ _) _⟩
theorem rising_small (A : Option Addr) (c n : Nat) (names : List ByteArray) (w : World) (hn : names.length = n) (hz : n <= 9223372036854775807) (hN : NamesAt w A names) :
  Calls Tryz.prog 161 #[.slice A n c, .func (.func 86) #[] #[]] w fun e w' => e = .returned (.bool (risingB smallB names)) /\ w = w' := by
 have HN := hZ hN
 have HQ := hZ hn
 clear hN hn
 go_enter Tryz.func161, Tryz.ntmps161
 go_wp2_with fail
 go_loop [9] (fun i => ∃ k : Nat, k <= n /\ i = .int .i64 k /\ Hid (∀ j, j < k -> badFor smallB names j = false)) (fun i => n - (intOf i).toNat)
 case atStart => exact ⟨0, by omega, rfl, hZ (fun j h => by omega)⟩
 case round =>
  obtain ⟨k, hk, rfl, HP⟩ := hrel;by_cases hlt : k < n
  ·obtain ⟨s, hs⟩ : ∃ s, names[k]? = some s := ⟨_, List.getElem?_eq_getElem (by rw [HQ.out]; exact hlt)⟩
   obtain ⟨g, o, rfl, hgo, hcs, hzs⟩ := HN.out k s hs;have hna := nameAt_of0 hs;rcases hid_or (smallB s.data.toList) with h1 | h1
   ·have R : Hid (risingB smallB names = false) := hZ (rising_no (i := k) (by rw [HQ.out]; exact hlt) (by unfold badFor; rw [hna, h1.out]; rfl))
    clear hna hs;go_wp2_with fail
    refine (small_any _ _ hzs).mono ?_; rintro e w1 ⟨rfl, rfl⟩; rw [h1.out]
    go_wp2_with fail
    go_ret;exact ⟨ret_bool R.out, rfl⟩
   ·rcases Nat.eq_zero_or_pos k with hk0 | hk0
    ·have hp : ¬ (0 : Int) < k := by omega
     have hb : Hid (badFor smallB names k = false) := hZ (by unfold badFor; rw [hna, h1.out, show decide (0 < k) = false by simp; omega]; rfl);clear hna hs hk0;go_wp2_with fail
     refine (small_any _ _ hzs).mono ?_; rintro e w1 ⟨rfl, rfl⟩; rw [h1.out]
     go_wp2_with fail
     go_round
     case rel => exact ⟨k + 1, by omega, by go_num, hZ (fun j hj => by
      rcases Nat.lt_or_ge j k with a | a
      ·exact HP.out j a
      ·rw [show j = k by omega]; exact hb.out)⟩
     case measure => simp [intOf]; omega
    ·obtain ⟨p, hps⟩ : ∃ p, names[k - 1]? = some p := ⟨_, List.getElem?_eq_getElem (by rw [HQ.out]; omega)⟩
     obtain ⟨g2, o2, eg, hg2, hc2, -⟩ := HN.out (k - 1) p hps;obtain ⟨rfl, rfl⟩ : g = g2 /\ o = o2 := by simpa using eg
     have hna2 := nameAt_of0 hps;have hp : (0 : Int) < k := by omega
     have hp1 : 1 <= (k : Int) := by omega
     rcases hid_or (!Op.bytesLess p.toList s.toList) with hL | hL
     ·have hl := hL.out
      have hb : Hid (badFor smallB names k = false) := hZ (by unfold badFor; rw [hna, hna2, h1.out, leS_eq, hl]; simp);clear hna hna2 eg hg2 hps hk0 hs;go_wp2_with fail
      refine (small_any _ _ hzs).mono ?_; rintro e w1 ⟨rfl, rfl⟩; rw [h1.out]
      go_wp2_with fail
      go_round
      case rel => exact ⟨k + 1, by omega, by go_num, hZ (fun j hj => by
       rcases Nat.lt_or_ge j k with a | a
       ·exact HP.out j a
       ·rw [show j = k by omega]; exact hb.out)⟩
      case measure => simp [intOf]; omega
     ·have hl := hL.out
      have R : Hid (risingB smallB names = false) := hZ (rising_no (i := k) (by rw [HQ.out]; exact hlt) (by unfold badFor; rw [hna, hna2, h1.out, leS_eq, hl, show decide (0 < k) = true by simp; omega]; rfl));clear hna hna2 eg hg2 hps hk0 hs;go_wp2_with fail
      refine (small_any _ _ hzs).mono ?_; rintro e w1 ⟨rfl, rfl⟩; rw [h1.out]
      go_wp2_with fail
      go_ret;exact ⟨ret_bool R.out, rfl⟩
  ·have R : Hid (risingB smallB names = true) := hZ ((rising_iff _ _).2 (fun i hi => HP.out i (by rw [HQ.out] at hi; omega)))
   go_wp2_with fail
   go_ret;exact ⟨ret_bool R.out, rfl⟩
theorem rising_great (A : Option Addr) (c n : Nat) (names : List ByteArray) (w : World) (hn : names.length = n) (hz : n <= 9223372036854775807) (hN : NamesAt w A names) :
  Calls Tryz.prog 161 #[.slice A n c, .func (.func 117) #[] #[]] w fun e w' => e = .returned (.bool (risingB greatB names)) /\ w = w' := by
 have HN := hZ hN
 have HQ := hZ hn
 clear hN hn
 go_enter Tryz.func161, Tryz.ntmps161
 go_wp2_with fail
 go_loop [9] (fun i => ∃ k : Nat, k <= n /\ i = .int .i64 k /\ Hid (∀ j, j < k -> badFor greatB names j = false)) (fun i => n - (intOf i).toNat)
 case atStart => exact ⟨0, by omega, rfl, hZ (fun j h => by omega)⟩
 case round =>
  obtain ⟨k, hk, rfl, HP⟩ := hrel;by_cases hlt : k < n
  ·obtain ⟨s, hs⟩ : ∃ s, names[k]? = some s := ⟨_, List.getElem?_eq_getElem (by rw [HQ.out]; exact hlt)⟩
   obtain ⟨g, o, rfl, hgo, hcs, hzs⟩ := HN.out k s hs;have hna := nameAt_of0 hs;rcases hid_or (greatB s.data.toList) with h1 | h1
   ·have R : Hid (risingB greatB names = false) := hZ (rising_no (i := k) (by rw [HQ.out]; exact hlt) (by unfold badFor; rw [hna, h1.out]; rfl))
    clear hna hs;go_wp2_with fail
    refine (great_any _ _ hzs).mono ?_; rintro e w1 ⟨rfl, rfl⟩; rw [h1.out]
    go_wp2_with fail
    go_ret;exact ⟨ret_bool R.out, rfl⟩
   ·rcases Nat.eq_zero_or_pos k with hk0 | hk0
    ·have hp : ¬ (0 : Int) < k := by omega
     have hb : Hid (badFor greatB names k = false) := hZ (by unfold badFor; rw [hna, h1.out, show decide (0 < k) = false by simp; omega]; rfl);clear hna hs hk0;go_wp2_with fail
     refine (great_any _ _ hzs).mono ?_; rintro e w1 ⟨rfl, rfl⟩; rw [h1.out]
     go_wp2_with fail
     go_round
     case rel => exact ⟨k + 1, by omega, by go_num, hZ (fun j hj => by
      rcases Nat.lt_or_ge j k with a | a
      ·exact HP.out j a
      ·rw [show j = k by omega]; exact hb.out)⟩
     case measure => simp [intOf]; omega
    ·obtain ⟨p, hps⟩ : ∃ p, names[k - 1]? = some p := ⟨_, List.getElem?_eq_getElem (by rw [HQ.out]; omega)⟩
     obtain ⟨g2, o2, eg, hg2, hc2, -⟩ := HN.out (k - 1) p hps;obtain ⟨rfl, rfl⟩ : g = g2 /\ o = o2 := by simpa using eg
     have hna2 := nameAt_of0 hps;have hp : (0 : Int) < k := by omega
     have hp1 : 1 <= (k : Int) := by omega
     rcases hid_or (!Op.bytesLess p.toList s.toList) with hL | hL
     ·have hl := hL.out
      have hb : Hid (badFor greatB names k = false) := hZ (by unfold badFor; rw [hna, hna2, h1.out, leS_eq, hl]; simp);clear hna hna2 eg hg2 hps hk0 hs;go_wp2_with fail
      refine (great_any _ _ hzs).mono ?_; rintro e w1 ⟨rfl, rfl⟩; rw [h1.out]
      go_wp2_with fail
      go_round
      case rel => exact ⟨k + 1, by omega, by go_num, hZ (fun j hj => by
       rcases Nat.lt_or_ge j k with a | a
       ·exact HP.out j a
       ·rw [show j = k by omega]; exact hb.out)⟩
      case measure => simp [intOf]; omega
     ·have hl := hL.out
      have R : Hid (risingB greatB names = false) := hZ (rising_no (i := k) (by rw [HQ.out]; exact hlt) (by unfold badFor; rw [hna, hna2, h1.out, leS_eq, hl, show decide (0 < k) = true by simp; omega]; rfl));clear hna hna2 eg hg2 hps hk0 hs;go_wp2_with fail
      refine (great_any _ _ hzs).mono ?_; rintro e w1 ⟨rfl, rfl⟩; rw [h1.out]
      go_wp2_with fail
      go_ret;exact ⟨ret_bool R.out, rfl⟩
  ·have R : Hid (risingB greatB names = true) := hZ ((rising_iff _ _).2 (fun i hi => HP.out i (by rw [HQ.out] at hi; omega)))
   go_wp2_with fail
   go_ret;exact ⟨ret_bool R.out, rfl⟩
end Go.Proofs.YtddlmigofilejaaGreat
namespace Go.Proofs.YtddlmigofilejaaGreat.M
open Go
theorem deepL_append : ∀ (a b : List Ty), deepL (a ++ b) = max (deepL a) (deepL b)
  | [], b => by simp [deepL]
  | t :: r, b => by simp only [List.cons_append, deepL, deepL_append r b]; omega
theorem rise_lt {ns : List ByteArray} (h : ∀ i, i + 1 < ns.length -> Op.bytesLess (nameAt ns i).toList (nameAt ns (i + 1)).toList = true) : ∀ (k i : Nat), i + k + 1 < ns.length -> Op.bytesLess (nameAt ns i).toList (nameAt ns (i + k + 1)).toList = true
  | 0, i, hj => h i hj
  | k + 1, i, hj => bl_trans _ _ _ (rise_lt h k i (by omega)) (h (i + k + 1) (by omega))
end Go.Proofs.YtddlmigofilejaaGreat.M
namespace Go.Proofs.YtddlmigofilejaaGreat
open M
def impHas (m : Mo) (s : ByteArray) : Bool := m.imps.any fun x => decide (x.asn = s)
def isTyp (s : ByteArray) (d : De) : Bool := !(d.kind == 4) && decide (d.name = s)
def typAt (m : Mo) (s : ByteArray) : Option Nat := m.decs.findIdx? (isTyp s)
mutual
def saidT (m : Mo) : Ty -> List Nat
  | .mk k _ _ d n _ ss => if k = 8 then (if d.size = 0 then (typAt m n).toList else []) else saidL m ss
def saidL (m : Mo) : List Ty -> List Nat
  | [] => []
  | t :: r => saidT m t ++ saidL m r
end
mutual
def wholeT (m : Mo) : Ty -> Bool
  | .mk k _ _ d n _ ss => if k = 8 then (if d.size = 0 then (typAt m n).isSome else impHas m d) else wholeL m ss
def wholeL (m : Mo) : List Ty -> Bool
  | [] => true
  | t :: r => wholeT m t && wholeL m r
end
structure En where
  at_ : Nat
  kind : Int
  said : List Nat
  whole : Bool
def entriesOf (m : Mo) (l : List De) : List En := l.mapIdx fun i d => ⟨i, d.kind, saidT m d.typ, wholeT m d.typ⟩
def entries (m : Mo) : List En := entriesOf m m.decs
inductive Reach (E : List En) (l : List Nat) : Nat -> Prop
  | one {i : Nat} : i ∈ l -> Reach E l i
  | step {i j : Nat} {x : En} : Reach E l j -> E[j]? = some x -> i ∈ x.said -> Reach E l i
end Go.Proofs.YtddlmigofilejaaGreat
namespace Go.Proofs.YtddlmigofilejaaGreat
open Go.RowKit
open M
def fewB (t : Ty) : Bool := decide (0 <= fewT t 3000)
theorem few_small {t : Ty} (h : fewB t = true) : many t <= 3000 := by
  have h0 : 0 <= fewT t 3000 := by simpa [fewB] using h
  have a := few_many t 3000 h0;omega
theorem fewB_any (t : Ty) (v : Value) (w : World) (hv : TyV w v t) :
    Calls Tryz.prog 17 #[v] w fun e w' => e = .returned (.bool (fewB t)) /\ Below w.heap.size w w' := by
  have HV := hZ hv;obtain ⟨l, rfl, hT⟩ := hv;obtain ⟨An, cn, As, cs, rfl, -, -, -, -, -, -, -⟩ := hT.parts;clear hT;have bd := few_bd t 3000 (by omega);unfold fewB
  go_enter Tryz.func17, Tryz.ntmps17
  go_wp2_with fail
  refine (few_any _ t (Nat.le_refl _) 3000 (by omega) (by omega) _ _ (HV.out.below (by first | exact below_new (Below.refl _ _) _ | exact Below.refl _ _))).mono ?_; rintro e w1 ⟨rfl, hb1⟩
  go_wp2_with fail
  go_ret;refine ⟨rfl, ?_⟩;first | exact hb1 | exact (below_new (Below.refl _ _) _).trans (hb1.mono (by simp))
mutual
def countT : Ty -> Int -> Int -> Bool × Int
  | .mk k p m d n ns ss, depth, c =>
    if 500 < c + 1 \/ 32 < depth \/ formT (.mk k p m d n ns ss) = false then (false, c + 1) else countL ss (depth + 1) (c + 1)
def countL : List Ty -> Int -> Int -> Bool × Int
  | [], _, c => (true, c)
  | t :: r, depth, c => if (countT t depth c).1 = true then countL r depth (countT t depth c).2 else (false, (countT t depth c).2)
end
theorem countT_eq (t : Ty) (d c : Int) : countT t d c = if 500 < c + 1 \/ 32 < d \/ formT t = false then (false, c + 1) else countL t.subs (d + 1) (c + 1) := by cases t; rfl
theorem countL_at {l : List Ty} {k : Nat} {s : Ty} (h : l[k]? = some s) (d c : Int) : countL (l.drop k) d c = if (countT s d c).1 = true then countL (l.drop (k + 1)) d (countT s d c).2 else (false, (countT s d c).2) := by
  have hk := (List.getElem?_eq_some_iff.1 h).1
  have e : l.drop k = s :: l.drop (k + 1) := by
    rw [List.drop_eq_getElem_cons hk];congr 1
    exact (List.getElem?_eq_some_iff.1 h).2
  rw [e]; rfl
mutual
theorem countT_is : ∀ (t : Ty) (d c : Int), c <= 500 -> ((countT t d c).1 = true ↔ allOk t = true /\ c + many t <= 500 /\ d + deep t <= 33) /\ ((countT t d c).1 = true -> (countT t d c).2 = c + many t) /\ c <= (countT t d c).2 /\ (countT t d c).2 <= 501
  | .mk k p m d' n ns ss, d, c, hc => by
    have hm : many (.mk k p m d' n ns ss) = 1 + manyL ss := rfl;have hd : deep (.mk k p m d' n ns ss) = deepL ss + 1 := rfl;have ha : allOk (.mk k p m d' n ns ss) = (ownOk (.mk k p m d' n ns ss) && allOkL ss) := rfl;have he : countT (.mk k p m d' n ns ss) d c = if 500 < c + 1 \/ 32 < d \/ formT (.mk k p m d' n ns ss) = false then (false, c + 1) else countL ss (d + 1) (c + 1) := rfl
    rw [he, hm, hd, ha, <- formT_own];by_cases h : 500 < c + 1 \/ 32 < d \/ formT (.mk k p m d' n ns ss) = false
    · rw [if_pos h]
      refine ⟨⟨fun h => by simp at h, fun ⟨h1, h2, h3⟩ => ?_⟩, fun h => by simp at h, by simp; omega, by simp; omega⟩;exfalso
      rcases h with h | h | h
      · omega
      · omega
      · rw [h] at h1; simp at h1
    · rw [if_neg h]
      have hf : formT (.mk k p m d' n ns ss) = true := by
        rcases hid_or (formT (.mk k p m d' n ns ss)) with e | e
        · exact absurd (.inr (.inr e.out)) h
        · exact e.out
      have h1 : ¬ 500 < c + 1 := fun x => h (.inl x)
      have h2 : ¬ 32 < d := fun x => h (.inr (.inl x))
      obtain ⟨a, b, l, u⟩ := countL_is ss (d + 1) (c + 1) (by omega) (by omega);refine ⟨?_, fun x => by rw [b x]; omega, by omega, u⟩;rw [a, hf];simp only [Bool.true_and];constructor
      · rintro ⟨x, y, z⟩; exact ⟨x, by omega, by omega⟩
      · rintro ⟨x, y, z⟩; exact ⟨x, by omega, by omega⟩
theorem countL_is : ∀ (l : List Ty) (d c : Int), c <= 500 -> d <= 33 -> ((countL l d c).1 = true ↔ allOkL l = true /\ c + manyL l <= 500 /\ d + deepL l <= 33) /\ ((countL l d c).1 = true -> (countL l d c).2 = c + manyL l) /\ c <= (countL l d c).2 /\ (countL l d c).2 <= 501
  | [], d, c, hc, hd => by
    have hm : manyL [] = 0 := rfl;have h2 : deepL [] = 0 := rfl;have ha : allOkL [] = true := rfl;have he : countL [] d c = (true, c) := rfl;rw [he, hm, h2, ha];exact ⟨⟨fun _ => ⟨rfl, by omega, by omega⟩, fun _ => rfl⟩, fun _ => by simp, by simp, by simp; omega⟩
  | t :: r, d, c, hc, hd => by
    have hm : manyL (t :: r) = many t + manyL r := rfl;have h2 : deepL (t :: r) = max (deep t) (deepL r) := rfl;have ha : allOkL (t :: r) = (allOk t && allOkL r) := rfl;have he : countL (t :: r) d c = if (countT t d c).1 = true then countL r d (countT t d c).2 else (false, (countT t d c).2) := rfl
    obtain ⟨a, b, l, u⟩ := countT_is t d c hc;rw [he, hm, h2, ha];by_cases h : (countT t d c).1 = true
    · rw [if_pos h]
      have e := b h;obtain ⟨x, y, z⟩ := a.1 h;obtain ⟨a2, b2, l2, u2⟩ := countL_is r d (countT t d c).2 (by omega) hd;refine ⟨?_, fun x => by rw [b2 x]; omega, by omega, u2⟩;rw [a2, x, e];simp only [Bool.true_and];constructor
      · rintro ⟨x', y', z'⟩; exact ⟨x', by omega, by omega⟩
      · rintro ⟨x', y', z'⟩; exact ⟨x', by omega, by omega⟩
    · rw [if_neg h]
      refine ⟨⟨fun h => by simp at h, fun ⟨x, y, z⟩ => ?_⟩, fun h => by simp at h, l, u⟩;exfalso
      simp only [Bool.and_eq_true] at x;exact h (a.2 ⟨x.1, by omega, by omega⟩)
end
def sizeT (t : Ty) : Nat := if mayT t = true then many t else 0
theorem may_iff (t : Ty) : mayT t = true ↔ (countT t 1 0).1 = true := by
  rw [(countT_is t 1 0 (by omega)).1];unfold mayT
  simp only [Bool.and_eq_true, decide_eq_true_eq];constructor
  · rintro ⟨⟨a, b⟩, c⟩; exact ⟨a, by omega, by omega⟩
  · rintro ⟨a, b, c⟩; exact ⟨⟨a, by omega⟩, by omega⟩
theorem size_pos (t : Ty) : decide (0 < sizeT t) = mayT t := by
  have := many_pos t
  unfold sizeT
  rcases hid_or (mayT t) with h | h
  · rw [h.out]; rfl
  · rw [h.out]; simp; omega
end Go.Proofs.YtddlmigofilejaaGreat
