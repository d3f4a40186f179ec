/-
  Tokens' answers in the words that a caller needs, and the walk of the reference's Same: two rows of the same tokens are.
-/
import Derived.Test.YthlpiiakpneiiaaDoorLxT
import Derived.Deep.QuietTactic
import Derived.BigQuiet
namespace Go.Proofs.YthlpiiakpneiiaaDoor
open Go.RowKit
open M

/-- A slice's cells hold these tokens. -/
def RowAt (w : World) (A : Option Addr) (ts : List Tok) : Prop :=
  ∀ i t, ts[i]? = some t → ∃ g, A = some ⟨g, 0, none⟩ ∧ g < w.heap.size ∧ w.cell? ⟨g, i * 3, none⟩ = some (.int .i64 (t.kind : Int)) ∧ w.cell? ⟨g, i * 3 + 1, none⟩ = some (.int .i64 (t.place : Int)) ∧ w.cell? ⟨g, i * 3 + 2, none⟩ = some (.string t.text)
theorem RowAt.below {w w' : World} {A : Option Addr} {ts : List Tok} (h : RowAt w A ts) (hb : Below w.heap.size w w') : RowAt w' A ts := by
  intro i t ht
  obtain ⟨g, hA, hg, h0, h1, h2⟩ := h i t ht
  exact ⟨g, hA, Nat.lt_of_lt_of_le hg hb.size, (hb.cell (p := ⟨g, _, none⟩) hg).trans h0, (hb.cell (p := ⟨g, _, none⟩) hg).trans h1, (hb.cell (p := ⟨g, _, none⟩) hg).trans h2⟩
theorem rowCells_at (ts : List Tok) (i j : Nat) (t : Tok) (h : ts[i]? = some t) (hj : j < 3) : (rowCells ts)[i * 3 + j]? = (tokCells t)[j]? := by
  unfold rowCells
  induction ts generalizing i with
  | nil => simp at h
  | cons a r ih =>
    rw [List.flatMap_cons]
    rcases i with _ | i
    · simp at h; subst h
      rw [List.getElem?_append_left (by simp [tokCells]; omega)]
      simp
    · rw [List.getElem?_append_right (by simp [tokCells]; omega)]
      have : (i + 1) * 3 + j - (tokCells a).length = i * 3 + j := by simp [tokCells]; omega
      rw [this]
      exact ih i (by simpa using h)
theorem own_rowAt {w : World} {base : Nat} {v : Value} {ts : List Tok} (h : w.ownsRow base 35 3 v ts.length (rowCells ts)) : ∃ A c, v = .slice A ts.length c ∧ RowAt w A ts := by
  rcases h.2 with ⟨rfl, hn⟩ | ⟨g, cap, cur, rfl, hb, hg, hrest⟩
  · have hts : ts = [] := List.eq_nil_of_length_eq_zero hn
    subst hts
    exact ⟨none, 0, rfl, fun i t ht => by simp at ht⟩
  · refine ⟨some ⟨g, 0, none⟩, cap, rfl, fun i t ht => ⟨g, rfl, (Array.getElem?_eq_some_iff.1 hg).1, ?_, ?_, ?_⟩⟩
    all_goals
      have hc := h.cells (g := g) rfl
      have hadd : ∀ j, (⟨g, 0, none⟩ : Addr).add j = ⟨g, j, none⟩ := fun j => by unfold Addr.add; split <;> simp_all
    · have := hc (i * 3) (.int .i64 (t.kind : Int)) ((rowCells_at ts i 0 t ht (by omega)).trans rfl)
      rwa [hadd] at this
    · have := hc (i * 3 + 1) (.int .i64 (t.place : Int)) ((rowCells_at ts i 1 t ht (by omega)).trans rfl)
      rwa [hadd] at this
    · have := hc (i * 3 + 2) (.string t.text) ((rowCells_at ts i 2 t ht (by omega)).trans rfl)
      rwa [hadd] at this

theorem tokens_yes (s : ByteArray) (ts : List Tok) (w : World) (hs : s.size ≤ 20000) (h : fin s 0 [] = (ts, -1)) :
    Calls Tryd.prog 6 #[.string s] w fun e w' => ∃ A c, e = .returned (.tuple #[.slice A ts.length c, .nilIface]) ∧ ts.length ≤ 20000 ∧ RowAt w' A ts ∧ Below w.heap.size w w' := by
  refine (tokens_any s w hs).mono ?_
  rintro e w' ⟨hb, ⟨v, ts', hf, rfl, hown, hl⟩ | ⟨k, b, hf, -⟩⟩
  · rw [h] at hf
    obtain rfl : ts = ts' := (Prod.mk.inj hf).1
    obtain ⟨A, c, rfl, hr⟩ := own_rowAt hown
    exact ⟨A, c, rfl, by omega, hr, hb⟩
  · rw [h] at hf
    have := (Prod.mk.inj hf).2
    omega
theorem tokens_no (s : ByteArray) (k : Nat) (w : World) (hs : s.size ≤ 20000) (h : fin s 0 [] = ([], (k : Int))) :
    Calls Tryd.prog 6 #[.string s] w fun e w' => ∃ b, e = .returned (.tuple #[.slice none 0 0, .iface 41 (.pointer (some ⟨b, 0, none⟩))]) ∧ w.heap.size ≤ b ∧ b < w'.heap.size ∧
        w'.cell? ⟨b, 0, none⟩ = some (.int .i64 k) ∧ w'.cell? ⟨b, 1, none⟩ = some (.iface 28 (.int .i64 2)) ∧ Below w.heap.size w w' := by
  refine (tokens_any s w hs).mono ?_
  rintro e w' ⟨hb, ⟨v, ts', hf, -⟩ | ⟨k', b, hf, rfl, h1, h2, h3, h4⟩⟩
  · rw [h] at hf
    have := (Prod.mk.inj hf).2
    omega
  · rw [h] at hf
    have : (k : Int) = k' := (Prod.mk.inj hf).2
    obtain rfl : k = k' := by omega
    exact ⟨b, rfl, h1, h2, h3, h4, hb⟩
set_option maxHeartbeats 400000 in
theorem tokens_large (s : ByteArray) (w : World) (hs : 20000 < s.size) :
    Calls Tryd.prog 6 #[.string s] w fun e w' => e = .returned (.tuple #[.slice none 0 0, .iface 28 (.int .i64 3)]) ∧ w = w' := by
  have hn : (20000 : Int) < s.size := by omega
  go_enter Tryd.func6, Tryd.ntmps6
  go_wp2
  go_ret2
  exact ⟨rfl, rfl⟩

set_option maxHeartbeats 2000000 in
theorem same_any (A B : Option Addr) (c d : Nat) (ts : List Tok) (w : World) (hl : ts.length ≤ 20000) (hA : RowAt w A ts) (hB : RowAt w B ts) :
    Calls Tryd.prog 9 #[.slice A ts.length c, .slice B ts.length d] w fun e w' => e = .returned (.bool true) ∧ Below w.heap.size w w' := by
  generalize hn : ts.length = n at hl
  have HN := Lib.hid hn
  have HA := Lib.hid hA
  have HB := Lib.hid hB
  clear hn hA hB
  have hle : n ≤ 9223372036854775807 := by omega
  go_enter Tryd.func9, Tryd.ntmps9
  go_wp2
  go_loopw [5] (fun i wr => ∃ k : Nat, k ≤ n ∧ i = .int .i64 k ∧ Below w.heap.size w wr) (fun i _ => n - (intOf i).toNat)
  case atStart => exact ⟨0, by omega, rfl, Below.refl _ _⟩
  case round =>
    obtain ⟨k, hk, rfl, hb⟩ := hrel
    obtain ⟨wo, rfl⟩ : ∃ wo : World, wo = wr := ⟨_, rfl⟩
    by_cases hlt : k < n
    · have ht := List.getElem?_eq_getElem (l := ts) (i := k) (by rw [HN.out]; exact hlt)
      obtain ⟨g, rfl, -, a0, a1, a2⟩ := HA.out.below hb k _ ht
      obtain ⟨g', rfl, -, b0, b1, b2⟩ := HB.out.below hb k _ ht
      clear ht
      go_wp2_with fail
      go_quiet (fail)
      go_wp2
      go_roundw
      case rel => exact ⟨k + 1, by omega, by go_num, below_drewN hb nq⟩
      case measure => simp [intOf]; omega
    · go_wp2
      go_ret
      exact ⟨rfl, hb⟩

end Go.Proofs.YthlpiiakpneiiaaDoor
