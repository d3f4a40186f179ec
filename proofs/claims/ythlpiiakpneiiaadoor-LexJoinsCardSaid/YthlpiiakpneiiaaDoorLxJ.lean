/-
  The walk of package lex's Join: the tokens' texts, one space between; and of LexJoins: whatever tokens are handed in.
-/
import Derived.Test.YthlpiiakpneiiaaDoorLxU
import Derived.Test.YthlpiiakpneiiaaDoorLxO
import Derived.Test.YthlpiiakpneiiaaDoorBld
namespace Go.Proofs.YthlpiiakpneiiaaDoor
open Go.RowKit
open M

/-- The first k texts, one space between. -/
def jn (T : Nat → ByteArray) : Nat → List UInt8
  | 0 => []
  | k + 1 => (if 0 < k then jn T k ++ [32] else jn T k) ++ (T k).data.toList
theorem jn_len (T : Nat → ByteArray) (k : Nat) (h : ∀ j, j < k → (T j).size ≤ 1000) : (jn T k).length ≤ k * 1001 := by
  induction k with
  | zero => simp [jn]
  | succ k ih =>
    have a := ih (fun j hj => h j (by omega))
    have b := h k (by omega)
    have c := len_size (T k)
    unfold jn
    split <;> simp only [List.length_append, List.length_singleton, c] <;> omega
/-- The same as a text. -/
def jnB (T : Nat → ByteArray) (k : Nat) : ByteArray := ⟨(jn T k).toArray⟩
theorem bytes_ext {a b : ByteArray} (h : a.data.toList = b.data.toList) : a = b := by
  cases a; cases b; simp at h; simpa using h
theorem jnB_size (T : Nat → ByteArray) (k : Nat) : (jnB T k).size = (jn T k).length := by
  rw [← len_size]; simp [jnB]
theorem jnB_zero (T : Nat → ByteArray) : jnB T 0 = ⟨#[]⟩ := rfl
theorem jnB_first (T : Nat → ByteArray) : jnB T 0 ++ T 0 = jnB T 1 := bytes_ext (by simp [jnB, jn])
theorem jnB_more (T : Nat → ByteArray) (k : Nat) (h : 0 < k) : jnB T k ++ ⟨#[32]⟩ ++ T k = jnB T (k + 1) := bytes_ext (by simp [jnB, jn, h])

theorem cells_space (l : List UInt8) : Lib.byteCells l ++ [.int .u8 32] = Lib.byteCells (l ++ [32]) := by rw [Lib.byteCells_append]; rfl
theorem cells_text (l : List UInt8) (s : ByteArray) : Lib.byteCells l ++ Lib.strCells s = Lib.byteCells (l ++ s.data.toList) := by rw [Lib.byteCells_append, Lib.strCells_eq]

set_option maxRecDepth 100000 in
set_option maxHeartbeats 4000000 in
theorem join_any (A : Option Addr) (n c : Nat) (T : Nat → ByteArray) (w : World) (hn : n ≤ 500) (hT : TextsAt w A n T) (hs : ∀ j, j < n → (T j).size ≤ 1000) :
    Calls Tryd.prog 10 #[.slice A n c] w fun e w' => e = .returned (.string (jnB T n)) ∧ Below w.heap.size w w' := by
  have HT := Lib.hid hT
  have HS := Lib.hid hs
  clear hT hs
  have hle : n ≤ 9223372036854775807 := by omega
  have h0 := Lib.hid (Lib.fresh_isBuilder 52 5 w)
  go_enter Tryd.func10, Tryd.ntmps10
  go_wp2
  go_loopw [8] (fun i wr => ∃ k : Nat, k ≤ n ∧ i = .int .i64 k ∧ Hid (Lib.IsBuilder 52 5 w.heap.size w.heap.size (Lib.byteCells (jn T k)) wr) ∧ Below w.heap.size w wr) (fun i _ => n - (intOf i).toNat)
  case atStart => exact ⟨0, by omega, rfl, h0, below_new (Below.refl _ _) _⟩
  case round =>
    obtain ⟨k, hk, rfl, HB, hb⟩ := hrel
    obtain ⟨wo, rfl⟩ : ∃ wo : World, wo = wr := ⟨_, rfl⟩
    by_cases hlt : k < n
    · obtain ⟨g, o, x, y, rfl, -, a0, a1, a2⟩ := HT.out.below hb k hlt
      have hz := HS.out k hlt
      have hjl := jn_len T k (fun j hj => HS.out j (by omega))
      rcases Nat.eq_zero_or_pos k with hp | hp
      · have hp' : ¬ (0 : Int) < k := by omega
        have HJ : Hid (jn T (k + 1) = jn T k ++ (T k).data.toList) := Lib.hid (by show (if 0 < k then _ else _) ++ _ = _; rw [if_neg (by omega)])
        clear hp
        go_wp2_with fail
        refine (writeString_any w.heap.size w.heap.size (Lib.byteCells (jn T k)) (T k) _ (isBld_alloc HB.out _) (by rw [Lib.byteCells_length]; omega) (by have := hb.size; simp; omega)).mono ?_; rintro e w2 ⟨rfl, h2, hb2, -⟩
        have H2 : Hid (Lib.IsBuilder 52 5 w.heap.size w.heap.size (Lib.byteCells (jn T (k + 1))) w2) := Lib.hid (by rw [HJ.out, ← cells_text]; exact .inr h2)
        have hbb := (below_new hb _).trans hb2
        clear h2 hb hb2 a0 a1 a2
        go_wp2
        go_roundw
        case rel => exact ⟨k + 1, by omega, by go_num, H2, hbb⟩
        case measure => simp [intOf]; omega
      · have hp' : (0 : Int) < k := by omega
        have HJ : Hid (jn T (k + 1) = jn T k ++ [32] ++ (T k).data.toList) := Lib.hid (by show (if 0 < k then _ else _) ++ _ = _; rw [if_pos hp])
        clear hp
        have hsz : w.heap.size ≠ wo.heap.size := by have := h0.out.elim (fun h => h.lt) (fun h => h.lt); have := HB.out.elim (fun h => h.lt) (fun h => h.lt); omega
        go_wp2_with fail
        refine (writeByte_any w.heap.size w.heap.size (Lib.byteCells (jn T k)) 32 _ (isBld_alloc HB.out _) (by rw [Lib.byteCells_length]; omega) (by have := hb.size; simp; omega)).mono ?_; rintro e w1 ⟨rfl, h1, hb1, hk1⟩
        have d2 : w1.cell? ⟨wo.heap.size, 2, none⟩ = some (.string (T k)) := (kept_cell hk1 (heap_alloc_new wo _) (fun e => hsz e.symm) (by decide) 2).trans rfl
        have hbb := (below_new hb _).trans hb1
        have H1 : Hid (Lib.IsBuilder 52 5 w.heap.size w.heap.size (Lib.byteCells (jn T k ++ [32])) w1) := Lib.hid (by rw [← cells_space]; exact .inr h1)
        clear h1 hb1 hk1 hb a0 a1 a2 hsz
        go_wp2_with fail
        refine (writeString_any w.heap.size w.heap.size (Lib.byteCells (jn T k ++ [32])) (T k) _ H1.out (by rw [Lib.byteCells_length, List.length_append, List.length_singleton]; omega) hbb.size).mono ?_; rintro e w2 ⟨rfl, h2, hb2, -⟩
        have H2 : Hid (Lib.IsBuilder 52 5 w.heap.size w.heap.size (Lib.byteCells (jn T (k + 1))) w2) := Lib.hid (by rw [HJ.out, ← cells_text]; exact .inr h2)
        have hb3 := hbb.trans hb2
        clear h2 hbb hb2
        go_wp2
        go_roundw
        case rel => exact ⟨k + 1, by omega, by go_num, H2, hb3⟩
        case measure => simp [intOf]; omega
    · obtain rfl : k = n := by omega
      go_wp2_with fail
      refine (Tryd.Builder_String_any w.heap.size w.heap.size (jn T k) _ HB.out hb.size).mono ?_; rintro e w2 ⟨rfl, hb2⟩
      go_wp2
      go_ret
      exact ⟨rfl, hb.trans hb2⟩

end Go.Proofs.YthlpiiakpneiiaaDoor
