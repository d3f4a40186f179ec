/-
  Several texts in one: Plain: one step of what stands in a record, or a variant; a name put among names. Rows in which names, and subs, are set. · Plain: names with their types, each put among those ahead; a list sorted by names is the same, if no name is there twice. · The code's fields in memory: names with types, that grow in new memory; whether a name is among them.
-/
import Derived.Test.YtpfoclpgcbjjoaaGreatDoorJ08
import Derived.Deep.MidRow
import Derived.LoopTactic
/- Plain: one step of what stands in a record, or a variant; a name put among names. Rows in which names, and subs, are set. -/
namespace Go.Proofs.YtpfoclpgcbjjoaaGreatDoor
open Go.RowKit
open Go.Sort
open M

/-- Behind a name that may stand there. -/
def behindR (S : Toks) (k : Int) (z : List UInt8) (f d i c : Nat) (ns : List ByteArray) (ss : List Ty) : Res Ty :=
  if S.sign (i + 1) [58] = false then .err 2 (i + 1)
  else match pT S f (d + 1) (i + 2) c with
    | .err b j => .err b j
    | .ok s j c' =>
      if S.sign j z = true then .ok (Ty.mk k ⟨#[]⟩ 0 ⟨#[]⟩ ⟨#[]⟩ (putAt (posOf (S.T i) ns ns.length) (S.T i) ns) (putAt (posOf (S.T i) ns ns.length) s ss)) (j + 1) c'
      else if S.sign j [44] = false then .err 2 j
      else pParts S k z f d (j + 1) c' (putAt (posOf (S.T i) ns ns.length) (S.T i) ns) (putAt (posOf (S.T i) ns ns.length) s ss)
theorem parts_eq (S : Toks) (k : Int) (z : List UInt8) (f d i c : Nat) (ns : List ByteArray) (ss : List Ty) : pParts S k z (f + 1) d i c ns ss =
    if S.nameOk k i = false then .err 2 i else if 20 ≤ ns.length then .err 3 i else if twice (S.T i) ns = true then .err 5 i else behindR S k z f d i c ns ss := by
  conv => lhs; unfold pParts
  rfl
theorem behind_hne {S : Toks} {k : Int} {z : List UInt8} {f d i c : Nat} {ns : List ByteArray} {ss : List Ty} (h : ∀ j, behindR S k z f d i c ns ss ≠ .err 99 j) (hq : psB 0 (S.sign (i + 1) [58]) = 0) : ∀ j, pT S f (d + 1) (psI 0 (S.sign (i + 1) [58]) (i + 1)) c ≠ .err 99 j := fun j e => h j (by
  unfold behindR
  by_cases hs : S.sign (i + 1) [58] = false
  · rw [hs] at hq; cases hq
  · rw [if_neg hs]
    have : S.sign (i + 1) [58] = true := by simpa using hs
    rw [this, psI_yes] at e
    rw [e])
theorem behind_more {S : Toks} {k : Int} {z : List UInt8} {f d i c b2 i2 c2 : Nat} {ns : List ByteArray} {ss : List Ty} {t : Ty}
    (h : badR (psB 0 (S.sign (i + 1) [58])) (psI 0 (S.sign (i + 1) [58]) (i + 1)) (pT S f (d + 1) (psI 0 (S.sign (i + 1) [58]) (i + 1)) c) = badR b2 i2 (.ok t i2 c2)) (hq : (decide (b2 = 0) && S.sign i2 z) = false) :
    behindR S k z f d i c ns ss = badR (psB b2 (S.sign i2 [44])) (psI b2 (S.sign i2 [44]) i2) (pParts S k z f d (psI b2 (S.sign i2 [44]) i2) c2 (putAt (posOf (S.T i) ns ns.length) (S.T i) ns) (putAt (posOf (S.T i) ns ns.length) t ss)) := by
  rw [sign_res (S.sign i2 [44]) b2 i2 (fun j => pParts S k z f d j c2 (putAt (posOf (S.T i) ns ns.length) (S.T i) ns) (putAt (posOf (S.T i) ns ns.length) t ss))]
  rw [sign_res (S.sign (i + 1) [58]) 0 (i + 1) (fun j => pT S f (d + 1) j c), badR_0] at h
  unfold behindR
  by_cases hs : S.sign (i + 1) [58] = false
  · rw [if_pos hs] at h ⊢
    by_cases hb : b2 = 0
    · subst hb; cases h
    · rw [badR_ne _ _ hb] at h ⊢; exact h
  · rw [if_neg hs] at h ⊢
    rw [h]
    by_cases hb : b2 = 0
    · subst hb
      rw [badR_0, badR_0]
      have h4 : ¬ S.sign i2 z = true := by simpa using hq
      show (if _ then _ else _) = _
      rw [if_neg h4]
    · rw [badR_ne _ _ hb, badR_ne _ _ hb]
theorem behind_last {S : Toks} {k : Int} {z : List UInt8} {f d i c b2 i2 c2 : Nat} {ns : List ByteArray} {ss : List Ty} {t : Ty}
    (h : badR (psB 0 (S.sign (i + 1) [58])) (psI 0 (S.sign (i + 1) [58]) (i + 1)) (pT S f (d + 1) (psI 0 (S.sign (i + 1) [58]) (i + 1)) c) = badR b2 i2 (.ok t i2 c2)) (hq : (decide (b2 = 0) && S.sign i2 z) = true) :
    b2 = 0 ∧ behindR S k z f d i c ns ss = .ok (Ty.mk k ⟨#[]⟩ 0 ⟨#[]⟩ ⟨#[]⟩ (putAt (posOf (S.T i) ns ns.length) (S.T i) ns) (putAt (posOf (S.T i) ns ns.length) t ss)) (i2 + 1) c2 := by
  simp only [Bool.and_eq_true, decide_eq_true_eq] at hq
  obtain ⟨rfl, h4⟩ := hq
  refine ⟨rfl, ?_⟩
  rw [sign_res (S.sign (i + 1) [58]) 0 (i + 1) (fun j => pT S f (d + 1) j c), badR_0, badR_0] at h
  unfold behindR
  by_cases hs : S.sign (i + 1) [58] = false
  · rw [if_pos hs] at h; cases h
  · rw [if_neg hs] at h ⊢
    rw [h]
    show (if _ then _ else _) = _
    rw [if_pos h4]
theorem behind_fw {S : Toks} {f d i c b2 i2 c2 : Nat} {t : Ty} (h : badR (psB 0 (S.sign (i + 1) [58])) (psI 0 (S.sign (i + 1) [58]) (i + 1)) (pT S f (d + 1) (psI 0 (S.sign (i + 1) [58]) (i + 1)) c) = badR b2 i2 (.ok t i2 c2)) (hb : b2 = 0) : i < i2 ∧ i < S.n := by
  subst hb
  rw [badR_0] at h
  obtain ⟨h1, h2⟩ := badR_ok h
  have := (fw_all S f).1 (d + 1) (psI 0 (S.sign (i + 1) [58]) (i + 1)) c
  rw [h2] at this
  have h3 : psI 0 (S.sign (i + 1) [58]) (i + 1) < i2 := this
  have hs : S.sign (i + 1) [58] = true := by
    cases hq : S.sign (i + 1) [58] with
    | true => rfl
    | false => rw [hq] at h1; cases h1
  rw [hs, psI_yes] at h3
  have := sign_lt hs
  exact ⟨by omega, by omega⟩

/-! A name among names -/
theorem put_len {α : Type} (p : Nat) (x : α) (l : List α) (h : p ≤ l.length) : (putAt p x l).length = l.length + 1 := by unfold putAt; simp; omega
theorem put_end {α : Type} (x : α) (l : List α) : putAt l.length x l = l ++ [x] := by unfold putAt; simp
theorem put_at {α : Type} (p : Nat) (x : α) (l : List α) (h : p ≤ l.length) : (putAt p x l)[p]? = some x := by
  unfold putAt
  rw [List.getElem?_append_right (by simp; omega)]
  simp [Nat.min_eq_left h]
theorem put_ahead {α : Type} (m : Nat) (x : α) (l : List α) (h : m < l.length) : (putAt (m + 1) x l)[m]? = l[m]? := by
  unfold putAt
  rw [List.getElem?_append_left (by simp; omega), List.getElem?_take_of_lt (by omega)]
theorem put_step {α : Type} (m : Nat) (x y : α) (l : List α) (h : l[m]? = some y) : ((putAt (m + 1) x l).set (m + 1) y).set m x = putAt m x l := by
  have hm := (List.getElem?_eq_some_iff.1 h).1
  have hy : l[m] = y := (List.getElem?_eq_some_iff.1 h).2
  apply List.ext_getElem?
  intro j
  unfold putAt
  rcases Nat.lt_or_ge j m with hj | hj
  · rw [List.getElem?_set_ne (by omega), List.getElem?_set_ne (by omega), List.getElem?_append_left (by simp; omega), List.getElem?_append_left (by simp; omega), List.getElem?_take_of_lt (by omega), List.getElem?_take_of_lt hj]
  · rcases Nat.eq_or_lt_of_le hj with rfl | hj
    · rw [List.getElem?_set_self (by simp; omega), List.getElem?_append_right (by rw [List.length_take]; omega)]
      simp [Nat.min_eq_left (Nat.le_of_lt hm)]
    · rw [List.getElem?_set_ne (by omega)]
      rcases Nat.eq_or_lt_of_le (Nat.succ_le_of_lt hj) with e | hj2
      · have e : j = m + 1 := e.symm
        subst e
        rw [List.getElem?_set_self (by simp; omega), List.getElem?_append_right (by simp; omega)]
        simp [Nat.min_eq_left (Nat.le_of_lt hm), hy, hm]
      · rw [List.getElem?_set_ne (by omega), List.getElem?_append_right (by simp; omega), List.getElem?_append_right (by simp; omega)]
        simp only [List.length_take, Nat.min_eq_left (show m + 1 ≤ l.length by omega), Nat.min_eq_left (Nat.le_of_lt hm)]
        obtain ⟨q, rfl⟩ : ∃ q, j = m + 2 + q := ⟨j - (m + 2), by omega⟩
        rw [show m + 2 + q - (m + 1) = q + 1 by omega, show m + 2 + q - m = (q + 1) + 1 by omega]
        simp [List.getElem?_drop]
        congr 1; omega
theorem posOf_le (s : ByteArray) (ns : List ByteArray) : ∀ k, posOf s ns k ≤ k
  | 0 => Nat.le_refl _
  | k + 1 => by
    unfold posOf
    split
    · have := posOf_le s ns k; omega
    · exact Nat.le_refl _

/-! Rows in which one is set -/
theorem GrR.setName {lo g5 : Nat} {ns : List ByteArray} {n5 c5 : Nat} {ss : List Ty} {n6 : Nat} {v6 : Value} {w : World} (h : GrR lo ns n5 ss n6 (.slice (some ⟨g5, 0, none⟩) n5 c5) v6 w) (i : Nat) {s : ByteArray} (hs : s.size ≤ 9223372036854775807) :
    GrR lo (ns.set i s) n5 ss n6 (.slice (some ⟨g5, 0, none⟩) n5 c5) v6 (w.setCell ⟨g5, i, none⟩ (.string s)) ∧ ∀ l t, GrT lo (.slice (some ⟨g5, 0, none⟩) n5 c5) v6 w l t → GrT lo (.slice (some ⟨g5, 0, none⟩) n5 c5) v6 (w.setCell ⟨g5, i, none⟩ (.string s)) l t := by
  have ot : ∀ b, b ≠ g5 → (w.setCell ⟨g5, i, none⟩ (.string s)).heap[b]? = w.heap[b]? := fun b hb => Below.heap_setCell _ _ _ _ hb
  have mv : ∀ l t, GrT lo (.slice (some ⟨g5, 0, none⟩) n5 c5) v6 w l t → GrT lo (.slice (some ⟨g5, 0, none⟩) n5 c5) v6 (w.setCell ⟨g5, i, none⟩ (.string s)) l t := fun l t hT =>
    TyAt.move hT (by simp) fun b _ hS => ⟨hS, ot b (fun e => hS (.inr (.inl (by rw [e]; rfl))))⟩
  obtain ⟨C, h1, h2, h3, h4⟩ := h.subs
  refine ⟨⟨by rw [List.length_set]; exact h.len5, h.len6, ?_, fun x hx => ?_, ⟨C, h1, h2, ?_, fun i l t hl ht => mv l t (h4 i l t hl ht)⟩, h.apart⟩, mv⟩
  · rw [List.map_set]
    exact (h.names.stored i (.string s)).1
  · rcases List.mem_or_eq_of_mem_set hx with hx | rfl
    · exact h.szs x hx
    · exact hs
  · refine ⟨h3.1, ?_⟩
    rcases h3.2 with e | ⟨g6, cap6, cur6, hv, hB, hg6, rest⟩
    · exact .inl e
    · refine .inr ⟨g6, cap6, cur6, hv, hB, (ot g6 fun e => ?_).trans hg6, rest⟩
      exact h.apart g5 rfl (by rw [hv, ← e]; rfl)
theorem setCells7 (w : World) (g o : Nat) (v0 v1 v2 v3 v4 v5 v6 : Value) : w.setCells g o [v0, v1, v2, v3, v4, v5, v6] = ((((((w.setCell ⟨g, o, none⟩ v0).setCell ⟨g, o + 1, none⟩ v1).setCell ⟨g, o + 2, none⟩ v2).setCell ⟨g, o + 3, none⟩ v3).setCell ⟨g, o + 4, none⟩ v4).setCell ⟨g, o + 5, none⟩ v5).setCell ⟨g, o + 6, none⟩ v6 := by
  simp [World.setCells]
theorem setCells7_other {w : World} {g o b : Nat} {l : List Value} (hl : l.length = 7) (hne : b ≠ g) : (w.setCells g o l).heap[b]? = w.heap[b]? := by
  obtain ⟨v0, v1, v2, v3, v4, v5, v6, rfl⟩ := list7 l hl
  rw [setCells7, Below.heap_setCell _ _ _ _ hne, Below.heap_setCell _ _ _ _ hne, Below.heap_setCell _ _ _ _ hne, Below.heap_setCell _ _ _ _ hne, Below.heap_setCell _ _ _ _ hne, Below.heap_setCell _ _ _ _ hne, Below.heap_setCell _ _ _ _ hne]
theorem setCells7_size {w : World} {g o : Nat} {l : List Value} (hl : l.length = 7) : (w.setCells g o l).heap.size = w.heap.size := by
  obtain ⟨v0, v1, v2, v3, v4, v5, v6, rfl⟩ := list7 l hl
  rw [setCells7]; simp
theorem Kp.putCells {r : Nat} {w a : World} (h : Kp r w a) (g o : Nat) (hp : w.heap.size ≤ g) {l : List Value} (hl : l.length = 7) : Kp r w (a.setCells g o l) := by
  obtain ⟨v0, v1, v2, v3, v4, v5, v6, rfl⟩ := list7 l hl
  rw [setCells7]
  exact ((((((h.putNew _ hp _).putNew _ hp _).putNew _ hp _).putNew _ hp _).putNew _ hp _).putNew _ hp _).putNew _ hp _
theorem GrR.setSub {lo g6 : Nat} {ns : List ByteArray} {n5 : Nat} {ss : List Ty} {n6 c6 : Nat} {v5 : Value} {w : World} (h : GrR lo ns n5 ss n6 v5 (.slice (some ⟨g6, 0, none⟩) n6 c6) w) (i : Nat) (hi : i < n6) {l : List Value} {t : Ty} (hl : l.length = 7) (hT : GrT lo v5 (.slice (some ⟨g6, 0, none⟩) n6 c6) w l t) :
    GrR lo ns n5 (ss.set i t) n6 v5 (.slice (some ⟨g6, 0, none⟩) n6 c6) (w.setCells g6 (i * 7) l) ∧ ∀ l' t', GrT lo v5 (.slice (some ⟨g6, 0, none⟩) n6 c6) w l' t' → GrT lo v5 (.slice (some ⟨g6, 0, none⟩) n6 c6) (w.setCells g6 (i * 7) l) l' t' := by
  have ot : ∀ b, b ≠ g6 → (w.setCells g6 (i * 7) l).heap[b]? = w.heap[b]? := fun b hb => setCells7_other hl hb
  have mv : ∀ l' t', GrT lo v5 (.slice (some ⟨g6, 0, none⟩) n6 c6) w l' t' → GrT lo v5 (.slice (some ⟨g6, 0, none⟩) n6 c6) (w.setCells g6 (i * 7) l) l' t' := fun l' t' hT =>
    TyAt.move hT (by rw [setCells7_size hl]; exact Nat.le_refl _) fun b _ hS => ⟨hS, ot b (fun e => hS (.inr (.inr (by rw [e]; rfl))))⟩
  obtain ⟨C, h1, h2, h3, h4⟩ := h.subs
  refine ⟨⟨h.len5, by rw [List.length_set]; exact h.len6, ?_, h.szs, ⟨C.set i l, by rw [List.length_set]; exact h1, fun x hx => ?_, ?_, fun j x u hx hu => ?_⟩, h.apart⟩, mv⟩
  · refine ⟨h.names.1, ?_⟩
    rcases h.names.2 with e | ⟨g5, cap5, cur5, hv, hB, hg5, rest⟩
    · exact .inl e
    · refine .inr ⟨g5, cap5, cur5, hv, hB, (ot g5 fun e => ?_).trans hg5, rest⟩
      exact h.apart g5 (by rw [hv]; rfl) (by rw [e]; rfl)
  · rcases List.mem_or_eq_of_mem_set hx with hx | rfl
    · exact h2 x hx
    · exact hl
  · obtain ⟨v0, v1, v2, v3, v4, v5, v6, rfl⟩ := list7 l hl
    rw [flat7_set C h2 i (by omega), setCells7]
    exact ((((((((h3.stored _ v0).1.stored _ v1).1.stored _ v2).1.stored _ v3).1.stored _ v4).1.stored _ v5).1).stored _ v6).1
  · by_cases hij : i = j
    · subst hij
      rw [List.getElem?_set_self (by omega)] at hx
      rw [List.getElem?_set_self (by rw [h.len6]; exact hi)] at hu
      obtain rfl := Option.some.inj hx
      obtain rfl := Option.some.inj hu
      exact mv _ _ hT
    · rw [List.getElem?_set_ne hij] at hx hu
      exact mv _ _ (h4 j x u hx hu)

/-- One name more: what stands behind. -/
theorem GrR.moreName {w : World} {r : Nat} {ns : List ByteArray} {n5 : Nat} {A5 : Option Addr} {c5 : Nat} {ss : List Ty} {n6 : Nat} {A6 : Option Addr} {c6 g cap lo : Nat} {w1 w3 : World} {o : Obj} {s : ByteArray}
    (h : GrR lo ns n5 ss n6 (.slice A5 n5 c5) (.slice A6 n6 c6) w1) (hlo : lo ≤ w1.heap.size) (hs : s.size ≤ 9223372036854775807)
    (hown : w3.ownsRow lo 9 1 (.slice (some ⟨g, 0, none⟩) (n5 + 1) cap) (n5 + 1) (ns.map Value.string ++ [.string s])) (hgrow : (w1.alloc o).grownBy w3 (Value.slice A5 n5 c5).ownBlock)
    (hat : (Value.slice A5 n5 c5).ownBlock = some g ∨ g = (w1.alloc o).heap.size) {B : Nat} (hB : B < lo) {u0 u1 u2 u3 u4 u5 u6 : Value} (hbox : w1.heap[B]? = some (.cells #[u0, u1, u2, u3, u4, u5, u6] 42 (0, 0)))
    (hK : Kp r w w1) (hw : w.heap.size ≤ B) :
    GrR lo (ns ++ [s]) (n5 + 1) ss n6 (.slice (some ⟨g, 0, none⟩) (n5 + 1) cap) (.slice A6 n6 c6) (w3.setCell ⟨B, 5, none⟩ (.slice (some ⟨g, 0, none⟩) (n5 + 1) cap)) ∧
    (∀ l t, GrT lo (.slice A5 n5 c5) (.slice A6 n6 c6) w1 l t → GrT lo (.slice (some ⟨g, 0, none⟩) (n5 + 1) cap) (.slice A6 n6 c6) (w3.setCell ⟨B, 5, none⟩ (.slice (some ⟨g, 0, none⟩) (n5 + 1) cap)) l t) ∧
    (w3.setCell ⟨B, 5, none⟩ (.slice (some ⟨g, 0, none⟩) (n5 + 1) cap)).heap[B]? = some (.cells #[u0, u1, u2, u3, u4, .slice (some ⟨g, 0, none⟩) (n5 + 1) cap, u6] 42 (0, 0)) ∧
    Kp r w (w3.setCell ⟨B, 5, none⟩ (.slice (some ⟨g, 0, none⟩) (n5 + 1) cap)) ∧ (∀ b, b < w1.heap.size → b ≠ B → (Value.slice A5 n5 c5).ownBlock ≠ some b → (w3.setCell ⟨B, 5, none⟩ (.slice (some ⟨g, 0, none⟩) (n5 + 1) cap)).heap[b]? = w1.heap[b]?) ∧
    w3.cell? ⟨B, 5, none⟩ = some u5 ∧ w3.frozen? ⟨B, 5, none⟩ = false ∧ w1.heap.size ≤ (w3.setCell ⟨B, 5, none⟩ (.slice (some ⟨g, 0, none⟩) (n5 + 1) cap)).heap.size := by
  have hlow : ∀ b, (Value.slice A5 n5 c5).ownBlock = some b → lo ≤ b := fun b e => (h.names.lt b e).1
  obtain ⟨R3, mv⟩ := h.addName hown rfl hgrow hat hs
  have hsz : (w1.alloc o).heap.size = w1.heap.size + 1 := by simp
  have hsz3 := hgrow.size
  have old3 : ∀ b, b < w1.heap.size → (Value.slice A5 n5 c5).ownBlock ≠ some b → w3.heap[b]? = w1.heap[b]? := fun b hb hne => by
    rw [hgrow.block b (by omega) (fun e => hne e.symm)]
    exact Lib.alloc_old w1 o b hb
  have hb3 := (old3 B (by omega) (fun e => by have := hlow B e; omega)).trans hbox
  refine ⟨R3.keep (by simp) (fun b hb _ => Below.heap_setCell _ _ _ _ (by show b ≠ B; omega)), fun l t hT => (mv l t hT).keep (by simp) (fun b hb _ => Below.heap_setCell _ _ _ _ (by show b ≠ B; omega)), ?_, ?_,
    fun b hb hne hno => (Below.heap_setCell _ _ _ _ (by show b ≠ B; omega)).trans (old3 b hb hno), Lib.cell_of_heap hb3 5, Lib.frozen_of_heap hb3 5, by simp; omega⟩
  · have := Joins.block_setCell (i := 5) hb3 (.slice (some ⟨g, 0, none⟩) (n5 + 1) cap); simpa using this
  · refine Kp.putNew ((hK.alloc o).grow hgrow fun b e => ?_) _ hw _
    have := hlow b e; omega
/-- One type more, beside both rows. -/
theorem GrR.moreSub {w : World} {r : Nat} {ns : List ByteArray} {n5 : Nat} {A5 : Option Addr} {c5 : Nat} {ss : List Ty} {n6 : Nat} {A6 : Option Addr} {c6 g cap lo : Nat} {w1 w3 : World} {o : Obj} {l : List Value} {t : Ty} {C : List (List Value)}
    (h : GrR lo ns n5 ss n6 (.slice A5 n5 c5) (.slice A6 n6 c6) w1) (hlo : lo ≤ w1.heap.size)
    (hC1 : C.length = n6) (hC2 : ∀ l, l ∈ C → l.length = 7) (hC4 : ∀ (i : Nat) (l : List Value) (t : Ty), C[i]? = some l → ss[i]? = some t → GrT lo (.slice A5 n5 c5) (.slice A6 n6 c6) w1 l t) (hl : l.length = 7)
    (hGT : GrT lo (.slice A5 n5 c5) (.slice A6 n6 c6) w1 l t) (hown : w3.ownsRow lo 42 7 (.slice (some ⟨g, 0, none⟩) (n6 + 1) cap) (n6 + 1) (C.flatten ++ l)) (hgrow : (w1.alloc o).grownBy w3 (Value.slice A6 n6 c6).ownBlock)
    (hat : (Value.slice A6 n6 c6).ownBlock = some g ∨ g = (w1.alloc o).heap.size) {B : Nat} (hB : B < lo) {u0 u1 u2 u3 u4 u5 u6 : Value} (hbox : w1.heap[B]? = some (.cells #[u0, u1, u2, u3, u4, u5, u6] 42 (0, 0)))
    (hK : Kp r w w1) (hw : w.heap.size ≤ B) :
    GrR lo ns n5 (ss ++ [t]) (n6 + 1) (.slice A5 n5 c5) (.slice (some ⟨g, 0, none⟩) (n6 + 1) cap) (w3.setCell ⟨B, 6, none⟩ (.slice (some ⟨g, 0, none⟩) (n6 + 1) cap)) ∧
    (w3.setCell ⟨B, 6, none⟩ (.slice (some ⟨g, 0, none⟩) (n6 + 1) cap)).heap[B]? = some (.cells #[u0, u1, u2, u3, u4, u5, .slice (some ⟨g, 0, none⟩) (n6 + 1) cap] 42 (0, 0)) ∧
    Kp r w (w3.setCell ⟨B, 6, none⟩ (.slice (some ⟨g, 0, none⟩) (n6 + 1) cap)) ∧ (∀ b, b < lo → b ≠ B → (w3.setCell ⟨B, 6, none⟩ (.slice (some ⟨g, 0, none⟩) (n6 + 1) cap)).heap[b]? = w1.heap[b]?) ∧
    w3.cell? ⟨B, 6, none⟩ = some u6 ∧ w3.frozen? ⟨B, 6, none⟩ = false ∧ w1.heap.size ≤ (w3.setCell ⟨B, 6, none⟩ (.slice (some ⟨g, 0, none⟩) (n6 + 1) cap)).heap.size := by
  have hlow : ∀ b, (Value.slice A6 n6 c6).ownBlock = some b → lo ≤ b := fun b e => by
    obtain ⟨C', -, -, h3, -⟩ := h.subs
    exact (h3.lt b e).1
  have R3 := h.addSub hC1 hC2 hC4 hl hGT hown rfl hgrow hat
  have hsz : (w1.alloc o).heap.size = w1.heap.size + 1 := by simp
  have hsz3 := hgrow.size
  have old3 : ∀ b, b < lo → w3.heap[b]? = w1.heap[b]? := fun b hb => by
    rw [hgrow.block b (by omega) (fun e => by have := hlow b e.symm; omega)]
    exact Lib.alloc_old w1 o b (by omega)
  have hb3 := (old3 B hB).trans hbox
  refine ⟨R3.keep (by simp) (fun b hb _ => Below.heap_setCell _ _ _ _ (by show b ≠ B; omega)), ?_, ?_, fun b hb hne => (Below.heap_setCell _ _ _ _ (by show b ≠ B; omega)).trans (old3 b hb), Lib.cell_of_heap hb3 6, Lib.frozen_of_heap hb3 6, by simp; omega⟩
  · have := Joins.block_setCell (i := 6) hb3 (.slice (some ⟨g, 0, none⟩) (n6 + 1) cap); simpa using this
  · refine Kp.putNew ((hK.alloc o).grow hgrow fun b e => ?_) _ hw _
    have := hlow b e; omega

end Go.Proofs.YtpfoclpgcbjjoaaGreatDoor

/- Plain: names with their types, each put among those ahead; a list sorted by names is the same, if no name is there twice. -/
namespace Go.Proofs.YtpfoclpgcbjjoaaGreatDoor.M
open Go

/-- Bytes in their order: the same facts of the model's '<'. -/
theorem bl_irrefl : ∀ a : List UInt8, Op.bytesLess a a = false
  | [] => rfl
  | x :: a => by
    have : ¬ x < x := by simp
    simp [Op.bytesLess, bl_irrefl a]
theorem bl_trans : ∀ a b c : List UInt8, Op.bytesLess a b = true → Op.bytesLess b c = true → Op.bytesLess a c = true
  | [], [], _, h, _ => by simp [Op.bytesLess] at h
  | [], _ :: _, [], _, h => by simp [Op.bytesLess] at h
  | [], _ :: _, _ :: _, _, _ => by simp [Op.bytesLess]
  | _ :: _, [], _, h, _ => by simp [Op.bytesLess] at h
  | _ :: _, _ :: _, [], _, h => by simp [Op.bytesLess] at h
  | x :: a, y :: b, z :: c, h1, h2 => by
    simp only [Op.bytesLess, Bool.or_eq_true, Bool.and_eq_true, decide_eq_true_eq, beq_iff_eq] at h1 h2 ⊢
    rcases h1 with h1 | ⟨rfl, h1⟩
    · rcases h2 with h2 | ⟨rfl, h2⟩
      · exact .inl (UInt8.lt_trans h1 h2)
      · exact .inl h1
    · rcases h2 with h2 | ⟨rfl, h2⟩
      · exact .inl h2
      · exact .inr ⟨rfl, bl_trans a b c h1 h2⟩
theorem bl_tri : ∀ a b : List UInt8, Op.bytesLess a b = false → Op.bytesLess b a = false → a = b
  | [], [], _, _ => rfl
  | [], _ :: _, h, _ => by simp [Op.bytesLess] at h
  | _ :: _, [], _, h => by simp [Op.bytesLess] at h
  | x :: a, y :: b, h1, h2 => by
    simp only [Op.bytesLess, Bool.or_eq_false_iff, Bool.and_eq_false_iff, decide_eq_false_iff_not, beq_eq_false_iff_ne] at h1 h2
    have hxy : x = y := UInt8.le_antisymm (UInt8.not_lt.1 h2.1) (UInt8.not_lt.1 h1.1)
    subst hxy
    have := bl_tri a b (by rcases h1.2 with h | h; exact absurd rfl h; exact h) (by rcases h2.2 with h | h; exact absurd rfl h; exact h)
    rw [this]
theorem bl_ntrans (a b c : List UInt8) (h1 : Op.bytesLess a b = false) (h2 : Op.bytesLess b c = false) : Op.bytesLess a c = false := by
  cases h : Op.bytesLess a c with
  | false => rfl
  | true =>
    exfalso
    cases hb : Op.bytesLess b a with
    | true => have := bl_trans b a c hb h; rw [this] at h2; cases h2
    | false =>
      have := bl_tri a b h1 hb
      subst this
      rw [h] at h2; cases h2

abbrev FdT := ByteArray × Ty
/-- Not behind. -/
def leF (x y : FdT) : Prop := Op.bytesLess y.1.toList x.1.toList = false
/-- One more, put among those ahead. -/
def stepF (a : List ByteArray × List Ty) (x : FdT) : List ByteArray × List Ty := (putAt (posOf x.1 a.1 a.1.length) x.1 a.1, putAt (posOf x.1 a.1 a.1.length) x.2 a.2)
def pIns (P : List FdT) : List ByteArray × List Ty := P.foldl stepF ([], [])
def insN (P : List FdT) : List ByteArray := (pIns P).1
def insS (P : List FdT) : List Ty := (pIns P).2
theorem pIns_snoc (P : List FdT) (x : FdT) : pIns (P ++ [x]) = stepF (pIns P) x := by unfold pIns; rw [List.foldl_append]; rfl
theorem insN_snoc (P : List FdT) (x : FdT) : insN (P ++ [x]) = putAt (posOf x.1 (insN P) (insN P).length) x.1 (insN P) := by unfold insN; rw [pIns_snoc]; rfl
theorem insS_snoc (P : List FdT) (x : FdT) : insS (P ++ [x]) = putAt (posOf x.1 (insN P) (insN P).length) x.2 (insS P) := by unfold insS insN; rw [pIns_snoc]; rfl

theorem putAt_zip {α β : Type} (p : Nat) (x : α) (y : β) (l : List α) (m : List β) (h : l.length = m.length) : (putAt p x l).zip (putAt p y m) = putAt p (x, y) (l.zip m) := by
  unfold putAt
  rw [List.zip_append (by simp [h]), List.zip_cons_cons]
  simp only [List.zip_eq_zipWith, List.take_zipWith, List.drop_zipWith]
theorem putAt_perm {α : Type} (p : Nat) (x : α) (l : List α) : (putAt p x l).Perm (x :: l) := by
  unfold putAt
  have := (List.perm_middle (a := x) (l₁ := l.take p) (l₂ := l.drop p))
  rw [List.take_append_drop] at this
  exact this
theorem ins_rev (Q : List FdT) : (insN Q.reverse).length = Q.reverse.length ∧ (insS Q.reverse).length = Q.reverse.length ∧ ((insN Q.reverse).zip (insS Q.reverse)).Perm Q.reverse ∧ ((insN Q.reverse).zip (insS Q.reverse)).Pairwise leF := by
  induction Q with
  | nil => exact ⟨rfl, rfl, List.Perm.nil, List.Pairwise.nil⟩
  | cons x Q ih =>
    rw [List.reverse_cons]
    generalize Q.reverse = P at ih ⊢
    obtain ⟨h1, h2, h3, h4⟩ := ih
    have hle := posOf_le x.1 (insN P) (insN P).length
    rw [insN_snoc, insS_snoc]
    refine ⟨by rw [put_len _ _ _ hle, h1]; simp, by rw [put_len _ _ _ (by omega), h2]; simp, ?_, ?_⟩
    · rw [putAt_zip _ _ _ _ _ (by omega)]
      exact (putAt_perm _ _ _).trans ((List.Perm.cons x h3).trans (List.perm_append_singleton x P).symm)
    · rw [putAt_zip _ _ _ _ _ (by omega)]
      obtain ⟨Z, hZ⟩ : ∃ Z, Z = (insN P).zip (insS P) := ⟨_, rfl⟩
      have hn : insN P = Z.map (·.1) := by rw [hZ, List.map_fst_zip (by omega)]
      rw [← hZ] at h4 ⊢
      rw [hn]
      clear hZ hn h1 h2 h3 hle
      -- ahead of the place nothing is greater, behind it all is
      have key : ∀ k, k ≤ Z.length → (∀ j z, Z[j]? = some z → posOf x.1 (Z.map (·.1)) k ≤ j → j < k → Op.bytesLess x.1.toList z.1.toList = true) ∧ (∀ j z, Z[j]? = some z → j < posOf x.1 (Z.map (·.1)) k → Op.bytesLess x.1.toList z.1.toList = false) := by
        intro k
        induction k with
        | zero => exact fun _ => ⟨fun j z _ _ h => by omega, fun j z _ h => by unfold posOf at h; omega⟩
        | succ k ihk =>
          intro hk
          have hZk : Z[k]? = some Z[k] := List.getElem?_eq_getElem (by omega)
          have hna : nameAt (Z.map (·.1)) k = Z[k].1 := by unfold nameAt; simp [hZk]
          obtain ⟨i1, i2⟩ := ihk (by omega)
          unfold posOf
          rw [hna]
          split
          · rename_i hlt
            refine ⟨fun j z hz h1 h2 => ?_, i2⟩
            rcases Nat.lt_or_ge j k with h | h
            · exact i1 j z hz h1 h
            · have : j = k := by omega
              subst this
              rw [hZk] at hz; cases hz
              exact hlt
          · rename_i hlt
            refine ⟨fun j z hz h1 h2 => by omega, fun j z hz h1 => ?_⟩
            have hlt' : Op.bytesLess x.1.toList Z[k].1.toList = false := by simpa using hlt
            rcases Nat.lt_or_ge j k with h | h
            · have hp := (List.pairwise_iff_getElem.1 h4) j k (by omega) (by omega) h
              have hj : Z[j]? = some Z[j] := List.getElem?_eq_getElem (by omega)
              rw [hj] at hz; cases hz
              exact bl_ntrans _ _ _ hlt' hp
            · have : j = k := by omega
              subst this
              rw [hZk] at hz; cases hz
              exact hlt'
      obtain ⟨k1, k2⟩ := key Z.length (Nat.le_refl _)
      have hpl := posOf_le x.1 (Z.map (·.1)) Z.length
      rw [show (Z.map (·.1)).length = Z.length by simp]
      generalize posOf x.1 (Z.map (·.1)) Z.length = p at k1 k2 hpl
      unfold putAt
      rw [List.pairwise_append]
      have hbehind : ∀ b ∈ Z.drop p, Op.bytesLess x.1.toList b.1.toList = true := fun b hb => by
        obtain ⟨j, hj⟩ := List.getElem?_of_mem hb
        rw [List.getElem?_drop] at hj
        exact k1 (p + j) b hj (by omega) (List.getElem?_eq_some_iff.1 hj).1
      have hahead : ∀ a ∈ Z.take p, Op.bytesLess x.1.toList a.1.toList = false := fun a ha => by
        obtain ⟨j, hj⟩ := List.getElem?_of_mem ha
        rw [List.getElem?_take] at hj
        split at hj
        · rename_i hjp; exact k2 j a hj hjp
        · cases hj
      refine ⟨h4.sublist (List.take_sublist _ _), List.pairwise_cons.2 ⟨fun b hb => ?_, h4.sublist (List.drop_sublist _ _)⟩, fun a ha b hb => ?_⟩
      · show Op.bytesLess b.1.toList x.1.toList = false
        cases h : Op.bytesLess b.1.toList x.1.toList with
        | false => rfl
        | true =>
          have := bl_trans _ _ _ (hbehind b hb) h
          rw [bl_irrefl] at this; cases this
      · rcases List.mem_cons.1 hb with rfl | hb
        · exact hahead a ha
        · have : Z = Z.take p ++ Z.drop p := (List.take_append_drop _ _).symm
          rw [this, List.pairwise_append] at h4
          exact h4.2.2 a ha b hb
theorem ins_all (P : List FdT) : (insN P).length = P.length ∧ (insS P).length = P.length ∧ ((insN P).zip (insS P)).Perm P ∧ ((insN P).zip (insS P)).Pairwise leF := by
  have := ins_rev P.reverse
  rwa [List.reverse_reverse] at this
theorem insN_len (P : List FdT) : (insN P).length = P.length := (ins_all P).1
theorem insS_len (P : List FdT) : (insS P).length = P.length := (ins_all P).2.1
theorem twice_ins (s : ByteArray) (P : List FdT) : twice s (insN P) = P.any (fun x => x.1.data.toList == s.data.toList) := by
  obtain ⟨h1, h2, h3, -⟩ := ins_all P
  have hn : insN P = ((insN P).zip (insS P)).map (·.1) := by rw [List.map_fst_zip (by omega)]
  unfold twice
  rw [hn, List.any_map]
  exact h3.any_eq
/-- Sorted by names, none of which is there twice: just as they were put. -/
theorem ins_sorted {P Q : List FdT} (hp : Q.Perm P) (hs : Q.Pairwise leF) (hd : (P.map (·.1)).Nodup) : Q.map (·.1) = insN P ∧ Q.map (·.2) = insS P := by
  obtain ⟨h1, h2, h3, h4⟩ := ins_all P
  have e : Q = (insN P).zip (insS P) := by
    refine List.Perm.eq_of_pairwise (le := leF) (fun a b ha hb hab hba => ?_) hs h4 (hp.trans h3.symm)
    have hab' : a.1.toList = b.1.toList := bl_tri _ _ hba hab
    have hn : a.1 = b.1 := by
      have e1 := Lib.toList_data a.1
      have e2 := Lib.toList_data b.1
      rw [e1, e2] at hab'
      have : a.1.data = b.1.data := by apply Array.ext'; exact hab'
      cases ha' : a.1; cases hb' : b.1; rw [ha', hb'] at this; simp at this; rw [this]
    have ma : a ∈ P := hp.subset ha
    have mb : b ∈ P := h3.subset hb
    obtain ⟨i, hi⟩ := List.getElem?_of_mem ma
    obtain ⟨j, hj⟩ := List.getElem?_of_mem mb
    have hij : i = j := by
      have hi' := (List.getElem?_eq_some_iff.1 hi).1
      have hj' := (List.getElem?_eq_some_iff.1 hj).1
      have e1 := (List.getElem?_eq_some_iff.1 hi).2
      have e2 := (List.getElem?_eq_some_iff.1 hj).2
      have hpw := List.pairwise_iff_getElem.1 hd
      rcases Nat.lt_trichotomy i j with h | h | h
      · exact (hpw i j (by simpa using hi') (by simpa using hj') h (by rw [List.getElem_map, List.getElem_map, e1, e2]; exact hn)).elim
      · exact h
      · exact (hpw j i (by simpa using hj') (by simpa using hi') h (by rw [List.getElem_map, List.getElem_map, e1, e2]; exact hn.symm)).elim
    subst hij
    rw [hi] at hj; cases hj; rfl
  rw [e]
  exact ⟨List.map_fst_zip (by omega), List.map_snd_zip (by omega)⟩

/-- A permutation of what a list is turned into. -/
theorem perm_lift {α β : Type} (f : α → β) : ∀ {l : List α} {m : List β}, m.Perm (l.map f) → ∃ k : List α, k.Perm l ∧ k.map f = m := by
  intro l m h
  generalize hx : l.map f = x at h
  induction h generalizing l with
  | nil =>
    have : l = [] := by simpa using hx
    subst this
    exact ⟨[], List.Perm.nil, rfl⟩
  | cons a h ih =>
    cases l with
    | nil => simp at hx
    | cons b l =>
      simp at hx
      obtain ⟨k, hk, hm⟩ := ih hx.2
      exact ⟨b :: k, List.Perm.cons b hk, by simp [hx.1, hm]⟩
  | swap a b t =>
    cases l with
    | nil => simp at hx
    | cons u l =>
      cases l with
      | nil => simp at hx
      | cons v l =>
        simp at hx
        exact ⟨v :: u :: l, List.Perm.swap u v l, by simp [hx.1, hx.2.1, hx.2.2]⟩
  | trans h1 h2 ih1 ih2 =>
    obtain ⟨k, hk, hm⟩ := ih2 hx
    obtain ⟨k', hk', hm'⟩ := ih1 hm
    exact ⟨k', hk'.trans hk, hm'⟩

end Go.Proofs.YtpfoclpgcbjjoaaGreatDoor.M

/- The code's fields in memory: names with types, that grow in new memory; whether a name is among them. -/
namespace Go.Proofs.YtpfoclpgcbjjoaaGreatDoor
open Go.RowKit
open Go.Sort
open M

/-- A name with a type, as its eight cells are. -/
structure Nv where
  s : ByteArray
  k : Int
  p : ByteArray
  m : Int
  d : ByteArray
  n : ByteArray
  A5 : Option Addr
  n5 : Nat
  c5 : Nat
  A6 : Option Addr
  n6 : Nat
  c6 : Nat
instance : Inhabited Nv := ⟨⟨⟨#[]⟩, 0, ⟨#[]⟩, 0, ⟨#[]⟩, ⟨#[]⟩, none, 0, 0, none, 0, 0⟩⟩
def Nv.ty (x : Nv) : List Value := [.int .i64 x.k, .string x.p, .int .i64 x.m, .string x.d, .string x.n, .slice x.A5 x.n5 x.c5, .slice x.A6 x.n6 x.c6]
def Nv.enc (x : Nv) : List Value := [.string x.s, .int .i64 x.k, .string x.p, .int .i64 x.m, .string x.d, .string x.n, .slice x.A5 x.n5 x.c5, .slice x.A6 x.n6 x.c6]
theorem Nv.len (x : Nv) : x.enc.length = 8 := rfl
theorem Nv.one (x : Nv) : ∀ v ∈ x.enc, v.oneCell' = true := fun v hv => by
  simp [Nv.enc] at hv
  rcases hv with rfl | rfl | rfl | rfl | rfl | rfl | rfl | rfl <;> rfl
abbrev Nt := Nv × Ty
def rowN (P : List Nt) : List Value := (P.map (fun x => x.1.enc)).flatten
theorem rowN_snoc (P : List Nt) (x : Nt) : rowN (P ++ [x]) = rowN P ++ x.1.enc := by unfold rowN; simp
theorem rowN_len : ∀ P : List Nt, (rowN P).length = P.length * 8
  | [] => rfl
  | x :: P => by
    have := rowN_len P
    unfold rowN at this ⊢
    rw [List.map_cons, List.flatten_cons, List.length_append, this, x.1.len, List.length_cons]; omega
theorem rowN_at : ∀ (P : List Nt) (i q : Nat) (x : Nt), P[i]? = some x → q < 8 → (rowN P)[i * 8 + q]? = x.1.enc[q]?
  | [], i, q, x, h, _ => by simp at h
  | y :: P, 0, q, x, h, hq => by
    simp at h; subst h
    unfold rowN
    rw [List.map_cons, List.flatten_cons, List.getElem?_append_left (by rw [y.1.len]; omega)]
    simp
  | y :: P, i + 1, q, x, h, hq => by
    have h' : P[i]? = some x := by simpa using h
    have := rowN_at P i q x h' hq
    unfold rowN at this ⊢
    rw [List.map_cons, List.flatten_cons, List.getElem?_append_right (by rw [y.1.len]; omega), y.1.len, show (i + 1) * 8 + q - 8 = i * 8 + q by omega]
    exact this
/-- What they are to the document: names with types. -/
def fdOf (P : List Nt) : List FdT := P.map (fun x => (x.1.s, x.2))
theorem fdOf_snoc (P : List Nt) (x : Nt) : fdOf (P ++ [x]) = fdOf P ++ [(x.1.s, x.2)] := by unfold fdOf; simp
theorem fdOf_len (P : List Nt) : (fdOf P).length = P.length := by unfold fdOf; simp

/-- Fields that grow in new memory. -/
structure NmR (lo : Nat) (P : List Nt) (n : Nat) (v : Value) (w : World) : Prop where
  len : P.length = n
  own : w.ownsRow lo 238 8 v n (rowN P)
  szs : ∀ x, x ∈ P → x.1.s.size ≤ 281474976710656
  trees : ∀ x, x ∈ P → TyAt (strike (fun b => b < lo ∨ v.ownBlock = some b) w) x.1.ty x.2
theorem NmR.start (lo : Nat) (w : World) : NmR lo [] 0 (.slice none 0 0) w := ⟨rfl, World.ownsRow_nil _ _ _ _, fun x h => by simp at h, fun x h => by simp at h⟩
theorem NmR.keep {lo : Nat} {P : List Nt} {n : Nat} {v : Value} {w w' : World} (h : NmR lo P n v w) (hz : w.heap.size ≤ w'.heap.size) (hb : ∀ b, lo ≤ b → b < w.heap.size → w'.heap[b]? = w.heap[b]?) : NmR lo P n v w' :=
  ⟨h.len, own_from h.own hb, h.szs, fun x hx => (h.trees x hx).move hz fun b hlt hS => ⟨hS, hb b (by
    rcases Nat.lt_or_ge b lo with h | h
    · exact absurd (.inl h) hS
    · exact h) hlt⟩⟩
theorem NmR.lower {lo lo' : Nat} {P : List Nt} {n : Nat} {v : Value} {w : World} (h : NmR lo P n v w) (hl : lo' ≤ lo) : NmR lo' P n v w :=
  ⟨h.len, own_lower h.own hl, h.szs, fun x hx => (h.trees x hx).move (Nat.le_refl _) fun b _ hS => ⟨fun e => hS (by
    rcases e with e | e
    · exact .inl (by omega)
    · exact .inr e), rfl⟩⟩
theorem NmR.first {lo g : Nat} {x : Nt} {w : World} (hlo : lo ≤ g) (hg : w.heap[g]? = some (.cells x.1.enc.toArray 238 (0, 0))) (hs : x.1.s.size ≤ 281474976710656) (hT : TyAt (strike (fun b => b < lo ∨ b = g) w) x.1.ty x.2) :
    NmR lo [x] 1 (.slice (some ⟨g, 0, none⟩) 1 1) w := by
  refine ⟨rfl, ⟨by simp [rowN, x.1.len], .inr ⟨g, 1, x.1.enc.toArray, rfl, hlo, hg, Nat.le_refl _, by decide, by simp [x.1.len], ?_⟩⟩, fun y hy => by simp at hy; subst hy; exact hs, fun y hy => ?_⟩
  · simp [rowN, ← x.1.len]
  · simp at hy; subst hy
    refine TyAt.move hT (Nat.le_refl _) fun b _ hS => ⟨?_, rfl⟩
    rintro (e | e)
    · exact hS (.inl e)
    · simp [Value.ownBlock] at e; exact hS (.inr e.symm)
/-- One more. -/
theorem NmR.moreK {cu r lo g cap n : Nat} {P : List Nt} {v : Value} {w wo w1 w3 : World} {o : Obj} {x : Nt}
    (h : NmR lo P n v w1) (hlo : lo ≤ wo.heap.size) (hwo : ∀ b, v.ownBlock = some b → b < wo.heap.size) (hs : x.1.s.size ≤ 281474976710656)
    (hT : TyAt (strike (· < wo.heap.size) w1) x.1.ty x.2) (hown : w3.ownsRow lo 238 8 (.slice (some ⟨g, 0, none⟩) (n + 1) cap) (n + 1) (rowN P ++ x.1.enc)) (hgrow : (w1.alloc o).grownBy w3 v.ownBlock)
    (hat : v.ownBlock = some g ∨ g = (w1.alloc o).heap.size) (hK : KQ cu r w w1) (hw : w.heap.size ≤ lo) :
    NmR lo (P ++ [x]) (n + 1) (.slice (some ⟨g, 0, none⟩) (n + 1) cap) w3 ∧ KQ cu r w w3 ∧ (∀ b, b < lo → b < w1.heap.size → w3.heap[b]? = w1.heap[b]?) ∧
    (∀ b, (∀ vs fr, w1.heap[b]? ≠ some (Obj.cells vs 238 fr)) → b < w1.heap.size → w3.heap[b]? = w1.heap[b]?) ∧ w1.heap.size ≤ w3.heap.size := by
  have hlow : ∀ b, v.ownBlock = some b → lo ≤ b := fun b e => (h.own.lt b e).1
  have hsz : (w1.alloc o).heap.size = w1.heap.size + 1 := by simp
  have hsz3 := hgrow.size
  have hold : ∀ b, b < w1.heap.size → v.ownBlock ≠ some b → w3.heap[b]? = w1.heap[b]? := fun b hb hne => by
    rw [hgrow.block b (by omega) (fun e => hne e.symm)]
    exact Lib.alloc_old w1 o b hb
  have mv : ∀ l t, TyAt (strike (fun b => b < lo ∨ v.ownBlock = some b) w1) l t → TyAt (strike (fun b => b < lo ∨ (Value.slice (some ⟨g, 0, none⟩) (n + 1) cap).ownBlock = some b) w3) l t := fun l t hT => by
    refine TyAt.move hT (by omega) fun b hb hS => ⟨?_, hold b hb (fun e => hS (.inr e))⟩
    rintro (e | e)
    · exact hS (.inl e)
    · simp [Value.ownBlock] at e
      subst e
      rcases hat with e | e
      · exact hS (.inr e)
      · omega
  refine ⟨⟨by simp [h.len], by rw [rowN_snoc]; exact hown, fun y hy => ?_, fun y hy => mv _ _ ?_⟩, (hK.alloc o).grow hgrow fun b e => by have := hlow b e; omega, fun b hb hlt => hold b hlt (fun e => by have := hlow b e; omega), fun b hb hlt => hold b hlt (fun e => ?_), by omega⟩
  · rcases List.mem_append.1 hy with hy | hy
    · exact h.szs y hy
    · rw [List.mem_singleton.1 hy]; exact hs
  · rcases List.mem_append.1 hy with hy | hy
    · exact h.trees y hy
    · rw [List.mem_singleton.1 hy]
      refine TyAt.move hT (Nat.le_refl _) fun b hlt hS => ⟨?_, rfl⟩
      rintro (e | e)
      · omega
      · have := hwo b e; omega
  · rcases h.own.2 with ⟨e1, -⟩ | ⟨g6, cap6, cur6, hv, -, hg6, -⟩
    · rw [e1] at e; simp [Value.ownBlock] at e
    · rw [hv] at e; simp [Value.ownBlock] at e
      subst e
      exact hb _ _ hg6
/-- Where its cells lie. -/
theorem NmR.cell {lo : Nat} {P : List Nt} {n : Nat} {v : Value} {w : World} (h : NmR lo P n v w) : ∃ A cap, v = .slice A n cap ∧
    ∀ k x, P[k]? = some x → ∃ g, A = some ⟨g, 0, none⟩ ∧ lo ≤ g ∧ g < w.heap.size ∧ ∀ q u, x.1.enc[q]? = some u → w.cell? ⟨g, 0 + k * 8 + q, none⟩ = some u := by
  have hl := h.len
  rcases h.own.2 with ⟨rfl, h0⟩ | ⟨g, cap, cur, rfl, hB, hg, hnc, hcm, hcs, htake⟩
  · subst h0
    exact ⟨none, 0, rfl, fun k x hx => by have := (List.getElem?_eq_some_iff.1 hx).1; omega⟩
  · refine ⟨_, _, rfl, fun k x hx => ⟨g, rfl, hB, (Array.getElem?_eq_some_iff.1 hg).1, fun q u hu => ?_⟩⟩
    have hk := (List.getElem?_eq_some_iff.1 hx).1
    have hq : q < 8 := by have := (List.getElem?_eq_some_iff.1 hu).1; rwa [x.1.len] at this
    rw [Lib.cell_of_heap hg, ← Array.getElem?_toList]
    have e2 := rowN_at P k q x hx hq
    rw [← htake, List.getElem?_take] at e2
    split at e2
    · rw [show 0 + k * 8 + q = k * 8 + q by omega, e2]; exact hu
    · rename_i hn; omega

/-- The closure of field: is a name this one? -/
theorem clos_any (x : Nv) (t : ByteArray) (B : Nat) (w : World) (hB : w.cell? ⟨B, 2, none⟩ = some (.string t)) :
    Calls Tryz.prog 215 #[.agg #[.string x.s, .int .i64 x.k, .string x.p, .int .i64 x.m, .string x.d, .string x.n, .slice x.A5 x.n5 x.c5, .slice x.A6 x.n6 x.c6], .pointer (some ⟨B, 0, none⟩)] w fun e w' => e = .returned (.bool (x.s.data.toList == t.data.toList)) ∧ Below w.heap.size w w' := by
  obtain ⟨u, hu⟩ : ∃ u, (x.s.data.toList == t.data.toList) = u := ⟨_, rfl⟩
  have R : Hid ((x.s.toList == t.toList) = u) := Lib.hid (by rw [← hu, Lib.toList_data, Lib.toList_data])
  rw [hu]
  clear hu
  have hlt := World.block_lt_of_cell? _ _ hB
  have hne : B ≠ w.heap.size := Nat.ne_of_lt hlt
  go_enter Tryz.func215, Tryz.ntmps215
  go_wp2_with fail
  go_ret
  exact ⟨by rw [← R.out]; rfl, below_new (Below.refl _ _) _⟩

set_option maxRecDepth 100000 in
set_option maxHeartbeats 1000000 in
theorem index_named (A : Option Addr) (cap n : Nat) (P : List Nt) (t : ByteArray) (B : Nat) (w : World) (hn : P.length = n) (hz : n ≤ 1000000)
    (hS : ∀ k x, P[k]? = some x → ∃ g, A = some ⟨g, 0, none⟩ ∧ g < w.heap.size ∧ ∀ q u, x.1.enc[q]? = some u → w.cell? ⟨g, 0 + k * 8 + q, none⟩ = some u) (hB : w.cell? ⟨B, 2, none⟩ = some (.string t)) :
    Calls Tryz.prog 220 #[.slice A n cap, .func (.func 215) #[] #[.pointer (some ⟨B, 0, none⟩)]] w fun e w' =>
      ∃ r : Int, e = .returned (.int .i64 r) ∧ decide (0 ≤ r) = P.any (fun x => x.1.s.data.toList == t.data.toList) ∧ Below w.heap.size w w' := by
  have HS : Hid (∀ k x, P[k]? = some x → ∃ g o, A = some ⟨g, o, none⟩ ∧ g < w.heap.size ∧ ∀ q u, x.1.enc[q]? = some u → w.cell? ⟨g, o + k * 8 + q, none⟩ = some u) := Lib.hid (fun k x hx => by
    obtain ⟨g, h1, h2, h3⟩ := hS k x hx
    exact ⟨g, 0, h1, h2, h3⟩)
  have HN := Lib.hid hn
  have HB := Lib.hid hB
  have hBl := World.block_lt_of_cell? _ _ hB
  have eg : ∀ args w, (callFunc 215 args).run Tryz.prog w = .ok (.enter 215 args) w := enters_of Tryz.func215 (by kernel_rfl) rfl
  clear hS hn hB
  go_enter Tryz.func220, Tryz.ntmps220
  go_wp2_with fail
  go_loopw [8] (fun i wr => ∃ k : Nat, k ≤ n ∧ i = .int .i64 k ∧ Hid (∀ j x, j < k → P[j]? = some x → (x.1.s.data.toList == t.data.toList) = false) ∧ Below w.heap.size w wr) (fun i _ => n - (intOf i).toNat)
  case atStart => exact ⟨0, by omega, rfl, Lib.hid (fun j s h => by omega), Below.refl _ _⟩
  case round =>
    obtain ⟨k, hk, rfl, HP, hb⟩ := hrel
    obtain ⟨wo, rfl⟩ : ∃ wo : World, wo = wr := ⟨_, rfl⟩
    by_cases hlt : k < n
    · obtain ⟨x, hs⟩ : ∃ x, P[k]? = some x := ⟨_, List.getElem?_eq_getElem (by rw [HN.out]; exact hlt)⟩
      obtain ⟨g, o, rfl, hgl, hcs⟩ := HS.out k x hs
      have cc : ∀ q u, x.1.enc[q]? = some u → wo.cell? ⟨g, o + k * 8 + q, none⟩ = some u := fun q u hu => (hb.cell (p := ⟨g, _, none⟩) hgl).trans (hcs q u hu)
      have h0 : wo.cell? ⟨g, o + k * 8, none⟩ = some (.string x.1.s) := cc 0 _ rfl
      have h1 := cc 1 _ rfl
      have h2 := cc 2 _ rfl
      have h3 := cc 3 _ rfl
      have h4 := cc 4 _ rfl
      have h5 := cc 5 _ rfl
      have h6 := cc 6 _ rfl
      have h7 := cc 7 _ rfl
      have CL := Lib.hid (clos_any x.1 t B wo ((hb.cell (p := ⟨B, _, none⟩) hBl).trans HB.out))
      have HSS := Lib.hid hs
      clear hcs cc hs
      rcases hid_or (x.1.s.data.toList == t.data.toList) with hp | hp
      rotate_left
      · have R : Hid (decide (0 ≤ (k : Int)) = P.any (fun x => x.1.s.data.toList == t.data.toList)) := Lib.hid (by
          rw [show P.any (fun x => x.1.s.data.toList == t.data.toList) = true from List.any_eq_true.2 ⟨x, List.mem_of_getElem? HSS.out, hp.out⟩]
          simp)
        go_wp2_with fail
        refine CL.out.mono ?_; rintro e w2 ⟨rfl, hb2⟩; rw [hp.out]
        have hb3 := below_over hb hb2
        clear h0 h1 h2 h3 h4 h5 h6 h7 hb hb2
        go_wp2_with fail
        go_ret
        exact ⟨_, rfl, R.out, hb3⟩
      · go_wp2_with fail
        refine CL.out.mono ?_; rintro e w2 ⟨rfl, hb2⟩; rw [hp.out]
        have hb3 := below_over hb hb2
        clear h0 h1 h2 h3 h4 h5 h6 h7 hb hb2
        go_wp2_with fail
        go_roundw
        case rel => exact ⟨k + 1, by omega, by go_num, Lib.hid (fun j q hj hq => by
          rcases Nat.lt_or_ge j k with a | a
          · exact HP.out j q a hq
          · rw [show j = k by omega, HSS.out] at hq
            obtain rfl := Option.some.inj hq
            exact hp.out), hb3⟩
        case measure => simp [intOf]; omega
    · have R : Hid (decide (0 ≤ (-1 : Int)) = P.any (fun x => x.1.s.data.toList == t.data.toList)) := Lib.hid (by
        rw [show P.any (fun x => x.1.s.data.toList == t.data.toList) = false from List.any_eq_false.2 (fun x hx => by
          obtain ⟨j, hj⟩ := List.getElem?_of_mem hx
          have hjl := (List.getElem?_eq_some_iff.1 hj).1
          rw [HP.out j x (by rw [HN.out] at hjl; omega) hj]; decide)]
        rfl)
      go_wp2_with fail
      go_ret
      exact ⟨_, rfl, R.out, hb⟩

set_option maxRecDepth 100000 in
set_option maxHeartbeats 1000000 in
theorem contains_named {lo : Nat} {P : List Nt} {n : Nat} {v : Value} {w : World} (hR : NmR lo P n v w) (hz : n ≤ 1000000) (t : ByteArray) (B : Nat) (hB : w.cell? ⟨B, 2, none⟩ = some (.string t)) :
    Calls Tryz.prog 214 #[v, .func (.func 215) #[] #[.pointer (some ⟨B, 0, none⟩)]] w fun e w' =>
      e = .returned (.bool (P.any (fun x => x.1.s.data.toList == t.data.toList))) ∧ Below w.heap.size w w' := by
  obtain ⟨A, cap, rfl, hS⟩ := hR.cell
  have IX := Lib.hid (index_named A cap n P t B w hR.len hz (fun k x hx => by
    obtain ⟨g, h1, -, h2, h3⟩ := hS k x hx
    exact ⟨g, h1, h2, h3⟩) hB)
  clear hR hS hB
  go_enter Tryz.func214, Tryz.ntmps214
  go_wp2_with fail
  refine IX.out.mono ?_; rintro e w1 ⟨r, rfl, hr, hb1⟩
  have R := Lib.hid hr
  clear hr IX
  go_wp2_with fail
  go_ret
  exact ⟨by rw [← R.out]; rfl, hb1⟩

end Go.Proofs.YtpfoclpgcbjjoaaGreatDoor
