/-
  Several texts in one.
-/
import Derived.Test.YtddlmigofilejaaGreatK00
import Derived.Deep.QuietTactic
import Derived.BigQuiet
import Derived.Lib.QuietBelow
import Derived.Deep.DeepCutAuto
import Derived.Deep.CutBlock
import Derived.Laws.ResultCell
import Derived.Laws.Rows
set_option maxHeartbeats 1000000
namespace Go.Proofs.YtddlmigofilejaaGreat
open Go.RowKit
open M
theorem empty_facts (s : ByteArray) (h : s.size = 0) : s.toList = [] /\ s.toList.isEmpty = true := by
  have hl : s.data.toList = [] := by rw [<- List.length_eq_zero_iff, len_size]; exact h
  have g1 : s.toList = [] := by rw [Lib.toList_data, hl]
  exact ⟨g1, by rw [g1]; rfl⟩
theorem full_facts (s : ByteArray) (h : ¬ s.size = 0) : ¬ s.toList = [] /\ s.toList.isEmpty = false := by
  have hl : s.data.toList ≠ [] := by intro e; apply h; rw [<- len_size, e]; rfl
  have g1 : ¬ s.toList = [] := by rw [Lib.toList_data]; exact hl
  exact ⟨g1, by simpa using g1⟩
theorem spelled_low (s : ByteArray) (w : World) (hs : s.size <= 9223372036854775807) :
    Calls Tryz.prog 118 #[.string s, .func (.func 119) #[] #[], .func (.func 120) #[] #[]] w fun e w' => e = .returned (.bool (spell lowC lowDigC s.data.toList)) /\ w = w' := by
  by_cases h0 : s.size = 0
  · have R := hZ (spell_empty lowC lowDigC s h0)
    rw [R.out];obtain ⟨g1, g2⟩ := empty_facts s h0;clear h0 R;go_enter Tryz.func118, Tryz.ntmps118
    go_wp2
    go_ret;exact ⟨rfl, rfl⟩
  obtain ⟨g1, g2⟩ := full_facts s h0;have hp : 0 < s.size := by omega
  clear h0;by_cases h1 : 20 < s.size
  · have R := hZ (spell_long lowC lowDigC s h1)
    rw [R.out];have h1' : (20 : Int) < ↑s.size := by omega
    clear h1 R;go_enter Tryz.func118, Tryz.ntmps118
    go_wp2
    go_ret;exact ⟨rfl, rfl⟩
  have h1' : (↑s.size : Int) <= 20 := by omega
  have h1'' : ¬ (20 : Int) < ↑s.size := by omega
  have B0 := hZ (bt_eq s 0 hp);rcases hid_or (lowC (bt s.data.toList 0)) with hf | hf
  · have R := hZ (spell_first lowC lowDigC s hf.out)
    rw [R.out];clear h1 R;go_enter Tryz.func118, Tryz.ntmps118
    go_wp2_with fail
    rw [B0.out];refine (lower_any _ _).mono ?_; rintro e w' ⟨rfl, rfl⟩; rw [hf.out]
    go_wp2
    go_ret;exact ⟨rfl, rfl⟩
  go_enter Tryz.func118, Tryz.ntmps118
  go_wp2_with fail
  rw [B0.out];refine (lower_any _ _).mono ?_; rintro e w' ⟨rfl, rfl⟩; rw [hf.out]
  go_wp2
  go_loop [7] (fun i => ∃ k : Nat, 1 <= k /\ k <= s.size /\ i = .int .i64 k /\ Hid (∀ j, 1 <= j -> j < k -> lowDigC (bt s.data.toList j) = true)) (fun i => s.size - (intOf i).toNat)
  case atStart => exact ⟨1, by omega, by omega, rfl, hZ (fun j a b => by omega)⟩
  case round =>
    obtain ⟨k, hk1, hk, rfl, HK⟩ := hrel;by_cases hlt : k < s.size
    · have BK := hZ (bt_eq s k hlt)
      rcases hid_or (lowDigC (bt s.data.toList k)) with hg | hg
      · go_wp2_with fail
        rw [BK.out];refine (lowDig_any _ _).mono ?_; rintro e w' ⟨rfl, rfl⟩; rw [hg.out]
        go_wp2
        go_ret;exact ⟨ret_bool (spell_later lowC lowDigC s k hk1 hlt hg.out), rfl⟩
      · go_wp2_with fail
        rw [BK.out];refine (lowDig_any _ _).mono ?_; rintro e w' ⟨rfl, rfl⟩; rw [hg.out]
        go_wp2
        go_round
        case rel => exact ⟨k + 1, by omega, by omega, by go_num, hZ (upto_step (P := fun j => lowDigC (bt s.data.toList j)) HK.out hg.out)⟩
        case measure => simp [intOf]; omega
    · go_wp2
      go_ret;exact ⟨ret_bool (spell_all lowC lowDigC s hp (by omega) hf.out (fun j a b => HK.out j a (by omega))), rfl⟩
theorem spelled_up (s : ByteArray) (w : World) (hs : s.size <= 9223372036854775807) :
    Calls Tryz.prog 118 #[.string s, .func (.func 144) #[] #[], .func (.func 145) #[] #[]] w fun e w' => e = .returned (.bool (spell upC anyC s.data.toList)) /\ w = w' := by
  by_cases h0 : s.size = 0
  · have R := hZ (spell_empty upC anyC s h0)
    rw [R.out];obtain ⟨g1, g2⟩ := empty_facts s h0;clear h0 R;go_enter Tryz.func118, Tryz.ntmps118
    go_wp2
    go_ret;exact ⟨rfl, rfl⟩
  obtain ⟨g1, g2⟩ := full_facts s h0;have hp : 0 < s.size := by omega
  clear h0;by_cases h1 : 20 < s.size
  · have R := hZ (spell_long upC anyC s h1)
    rw [R.out];have h1' : (20 : Int) < ↑s.size := by omega
    clear h1 R;go_enter Tryz.func118, Tryz.ntmps118
    go_wp2
    go_ret;exact ⟨rfl, rfl⟩
  have h1' : (↑s.size : Int) <= 20 := by omega
  have h1'' : ¬ (20 : Int) < ↑s.size := by omega
  have B0 := hZ (bt_eq s 0 hp);rcases hid_or (upC (bt s.data.toList 0)) with hf | hf
  · have R := hZ (spell_first upC anyC s hf.out)
    rw [R.out];clear h1 R;go_enter Tryz.func118, Tryz.ntmps118
    go_wp2_with fail
    rw [B0.out];refine (upper_any _ _).mono ?_; rintro e w' ⟨rfl, rfl⟩; rw [hf.out]
    go_wp2
    go_ret;exact ⟨rfl, rfl⟩
  go_enter Tryz.func118, Tryz.ntmps118
  go_wp2_with fail
  rw [B0.out];refine (upper_any _ _).mono ?_; rintro e w' ⟨rfl, rfl⟩; rw [hf.out]
  go_wp2
  go_loop [7] (fun i => ∃ k : Nat, 1 <= k /\ k <= s.size /\ i = .int .i64 k /\ Hid (∀ j, 1 <= j -> j < k -> anyC (bt s.data.toList j) = true)) (fun i => s.size - (intOf i).toNat)
  case atStart => exact ⟨1, by omega, by omega, rfl, hZ (fun j a b => by omega)⟩
  case round =>
    obtain ⟨k, hk1, hk, rfl, HK⟩ := hrel;by_cases hlt : k < s.size
    · have BK := hZ (bt_eq s k hlt)
      rcases hid_or (anyC (bt s.data.toList k)) with hg | hg
      · go_wp2_with fail
        rw [BK.out];refine (any_any _ _).mono ?_; rintro e w' ⟨rfl, rfl⟩; rw [hg.out]
        go_wp2
        go_ret;exact ⟨ret_bool (spell_later upC anyC s k hk1 hlt hg.out), rfl⟩
      · go_wp2_with fail
        rw [BK.out];refine (any_any _ _).mono ?_; rintro e w' ⟨rfl, rfl⟩; rw [hg.out]
        go_wp2
        go_round
        case rel => exact ⟨k + 1, by omega, by omega, by go_num, hZ (upto_step (P := fun j => anyC (bt s.data.toList j)) HK.out hg.out)⟩
        case measure => simp [intOf]; omega
    · go_wp2
      go_ret;exact ⟨ret_bool (spell_all upC anyC s hp (by omega) hf.out (fun j a b => HK.out j a (by omega))), rfl⟩
theorem small_any (s : ByteArray) (w : World) (hs : s.size <= 9223372036854775807) :
    Calls Tryz.prog 86 #[.string s] w fun e w' => e = .returned (.bool (smallB s.data.toList)) /\ w = w' := by
  unfold smallB
  rcases hid_or (spell lowC lowDigC s.data.toList) with h | h <;> rw [h.out]
  · go_enter Tryz.func86, Tryz.ntmps86
    go_wp2_with fail
    refine (spelled_low _ _ hs).mono ?_; rintro e w' ⟨rfl, rfl⟩; rw [h.out]
    go_wp2
    go_ret;exact ⟨rfl, rfl⟩
  · go_enter Tryz.func86, Tryz.ntmps86
    go_wp2_with fail
    refine (spelled_low _ _ hs).mono ?_; rintro e w' ⟨rfl, rfl⟩; rw [h.out]
    go_wp2_with fail
    refine (key_any _ _).mono ?_; rintro e w' ⟨rfl, rfl⟩
    go_wp2
    go_ret;exact ⟨rfl, rfl⟩
theorem great_any (s : ByteArray) (w : World) (hs : s.size <= 9223372036854775807) :
    Calls Tryz.prog 117 #[.string s] w fun e w' => e = .returned (.bool (greatB s.data.toList)) /\ w = w' := by
  unfold greatB
  rcases hid_or (spell upC anyC s.data.toList) with h | h <;> rw [h.out]
  · go_enter Tryz.func117, Tryz.ntmps117
    go_wp2_with fail
    refine (spelled_up _ _ hs).mono ?_; rintro e w' ⟨rfl, rfl⟩; rw [h.out]
    go_wp2
    go_ret;exact ⟨rfl, rfl⟩
  · go_enter Tryz.func117, Tryz.ntmps117
    go_wp2_with fail
    refine (spelled_up _ _ hs).mono ?_; rintro e w' ⟨rfl, rfl⟩; rw [h.out]
    go_wp2_with fail
    refine (word_any _ _).mono ?_; rintro e w' ⟨rfl, rfl⟩
    go_wp2
    go_ret;exact ⟨rfl, rfl⟩
def keyAt (k : Nat) : ByteArray := ⟨(keys.getD k []).toArray⟩
theorem keyAt_list (k : Nat) : (keyAt k).toList = keys.getD k [] := by rw [Lib.toList_data]; rfl
theorem key_no (l : List UInt8) (h : ∀ j, j < 12 -> (keys.getD j [] == l) = false) : keyB l = false := by
  have h0 := h 0 (by omega); have h1 := h 1 (by omega); have h2 := h 2 (by omega); have h3 := h 3 (by omega); have h4 := h 4 (by omega); have h5 := h 5 (by omega)
  have h6 := h 6 (by omega); have h7 := h 7 (by omega); have h8 := h 8 (by omega); have h9 := h 9 (by omega); have h10 := h 10 (by omega); have h11 := h 11 (by omega)
  simp only [keys, List.getD_cons_zero, List.getD_cons_succ, beq_eq_false_iff_ne] at h0 h1 h2 h3 h4 h5 h6 h7 h8 h9 h10 h11;rw [Bool.eq_false_iff];intro e;unfold keyB at e
  rw [List.contains_iff_mem] at e;simp only [keys, List.mem_cons, List.not_mem_nil, or_false] at e;rcases e with e | e | e | e | e | e | e | e | e | e | e | e <;> first | exact h0 e.symm | exact h1 e.symm | exact h2 e.symm | exact h3 e.symm | exact h4 e.symm | exact h5 e.symm | exact h6 e.symm | exact h7 e.symm | exact h8 e.symm | exact h9 e.symm | exact h10 e.symm | exact h11 e.symm
theorem key_yes (l : List UInt8) (k : Nat) (hk : k < 12) (h : (keys.getD k [] == l) = true) : keyB l = true := by
  unfold keyB
  rw [List.contains_iff_mem];have : keys.getD k [] = l := by simpa using h
  rw [<- this, List.getD_eq_getElem?_getD, List.getElem?_eq_getElem (by exact hk)];exact List.getElem_mem _
theorem ks_cell (w : World) (k : Nat) (hk : k < 12) : (w.alloc (.cells #[.string ⟨#[97, 115]⟩, .string ⟨#[97, 108, 105, 97, 115]⟩, .string ⟨#[100, 101, 112]⟩, .string ⟨#[104, 105, 100, 100, 101, 110]⟩, .string ⟨#[105, 109, 112, 111, 114, 116]⟩, .string ⟨#[105, 115]⟩, .string ⟨#[109, 111, 100, 117, 108, 101]⟩, .string ⟨#[111, 112, 97, 113, 117, 101]⟩, .string ⟨#[112, 97, 99, 107, 97, 103, 101]⟩, .string ⟨#[117, 115, 101]⟩, .string ⟨#[118, 97, 108]⟩, .string ⟨#[118, 101, 114, 115, 105, 111, 110]⟩] 9)).cell? ⟨w.heap.size, k, none⟩ = some (.string (keyAt k)) := by
  match k, hk with
  | 0, _ => go_simp; rfl
  | 1, _ => go_simp; rfl
  | 2, _ => go_simp; rfl
  | 3, _ => go_simp; rfl
  | 4, _ => go_simp; rfl
  | 5, _ => go_simp; rfl
  | 6, _ => go_simp; rfl
  | 7, _ => go_simp; rfl
  | 8, _ => go_simp; rfl
  | 9, _ => go_simp; rfl
  | 10, _ => go_simp; rfl
  | 11, _ => go_simp; rfl
theorem refKey_any (s : ByteArray) (w : World) : Calls Tryz.prog 78 #[.string s] w fun e w' => e = .returned (.bool (keyB s.data.toList)) /\ Below w.heap.size w w' := by
  have HC := hZ (ks_cell w);have E := hZ (show s.toList = s.data.toList from Lib.toList_data s);go_enter Tryz.func78, Tryz.ntmps78
  go_wp2
  go_loop [4] (fun i => ∃ k : Nat, k <= 12 /\ i = .int .i64 k /\ Hid (∀ j, 0 <= j -> j < k -> (keys.getD j [] == s.data.toList) = false)) (fun i => 12 - (intOf i).toNat)
  case atStart => exact ⟨0, by omega, rfl, hZ (fun j _ a => by omega)⟩
  case round =>
    obtain ⟨k, hk, rfl, HK⟩ := hrel;by_cases hlt : k < 12
    · have hc := HC.out k hlt
      rcases hid_or ((keyAt k).toList == s.toList) with H | H
      · have H' := hZ H.out
        rw [keyAt_list, E.out] at H';have q := H.out;go_wp2
        go_round
        case rel => exact ⟨k + 1, by omega, by go_num, hZ (by
          have := upto_step (b := 0) (P := fun j => !(keys.getD j [] == s.data.toList)) (fun j a b => by rw [HK.out j a b]; rfl) (by rw [H'.out]; rfl)
          simpa using this)⟩
        case measure => simp [intOf]; omega
      · have H' := hZ H.out
        rw [keyAt_list, E.out] at H';have q := H.out;go_wp2
        go_ret;exact ⟨ret_bool (key_yes _ k hlt H'.out), below_new (Below.refl _ _) _⟩
    · go_wp2
      go_ret;exact ⟨ret_bool (key_no _ (fun j a => HK.out j (by omega) (by omega))), below_new (Below.refl _ _) _⟩
theorem low_yes {x y : Int} (h : y = x) (c : lowC y = true \/ digC y = true) : lowDigC x = true := by subst h; unfold lowDigC; rcases c with c | c <;> simp [c]
theorem low_no {x y : Int} (h : y = x) (c : lowC y = false /\ digC y = false) : lowDigC x = false := by subst h; unfold lowDigC; simp [c]
theorem letters_low (s : ByteArray) (w : World) (hs : s.size <= 9223372036854775807) :
    Calls Tryz.prog 77 #[.string s, .bool false] w fun e w' => e = .returned (.bool (letters lowDigC s.data.toList)) /\ w = w' := by
  by_cases h0 : s.size = 0
  · have R := hZ (letters_empty lowDigC s h0)
    rw [R.out];have h0' : (↑s.size : Int) < 1 := by omega
    clear h0 R;go_enter Tryz.func77, Tryz.ntmps77
    go_wp2
    go_ret;exact ⟨rfl, rfl⟩
  have hp : 0 < s.size := by omega
  have hp' : ¬ (↑s.size : Int) < 1 := by omega
  have hp'' : 1 <= (↑s.size : Int) := by omega
  clear h0;by_cases h1 : 20 < s.size
  · have R := hZ (letters_long lowDigC s h1)
    rw [R.out];have h1' : (20 : Int) < ↑s.size := by omega
    clear h1 R;go_enter Tryz.func77, Tryz.ntmps77
    go_wp2
    go_ret;exact ⟨rfl, rfl⟩
  have h1' : (↑s.size : Int) <= 20 := by omega
  have h1'' : ¬ (20 : Int) < ↑s.size := by omega
  go_enter Tryz.func77, Tryz.ntmps77
  go_wp2
  go_loop [5] (fun i => ∃ k : Nat, k <= s.size /\ i = .int .i64 k /\ Hid (∀ j, 0 <= j -> j < k -> lowDigC (bt s.data.toList j) = true)) (fun i => s.size - (intOf i).toNat)
  case atStart => exact ⟨0, by omega, rfl, hZ (fun j a b => by omega)⟩
  case round =>
    obtain ⟨k, hk, rfl, HK⟩ := hrel;by_cases hlt : k < s.size
    · have BK := hZ (bt_eq s k hlt)
      go_wp2
      all_goals
        first
        | (exfalso; simp_all <;> omega)
        | (go_ret
           exact ⟨ret_bool (letters_later lowDigC s k hlt (low_no BK.out (by unfold lowC digC; simp_all <;> omega))), rfl⟩)
        | (go_round
           case rel => exact ⟨k + 1, by omega, by go_num, hZ (upto_step (P := fun j => lowDigC (bt s.data.toList j)) HK.out (low_yes BK.out (by unfold lowC digC; simp_all <;> omega)))⟩
           case measure => simp [intOf]; omega)
    · go_wp2
      go_ret;exact ⟨ret_bool (letters_all lowDigC s hp (by omega) (fun j a => HK.out j (by omega) (by omega))), rfl⟩
theorem big_yes {x y : Int} (h : y = x) (c : lowC y = true \/ digC y = true \/ upC y = true) : anyC x = true := by subst h; unfold anyC; rcases c with c | c | c <;> simp [c]
theorem big_no {x y : Int} (h : y = x) (c : lowC y = false /\ digC y = false /\ upC y = false) : anyC x = false := by subst h; unfold anyC; simp [c]
theorem letters_big (s : ByteArray) (w : World) (hs : s.size <= 9223372036854775807) :
    Calls Tryz.prog 77 #[.string s, .bool true] w fun e w' => e = .returned (.bool (letters anyC s.data.toList)) /\ w = w' := by
  by_cases h0 : s.size = 0
  · have R := hZ (letters_empty anyC s h0)
    rw [R.out];have h0' : (↑s.size : Int) < 1 := by omega
    clear h0 R;go_enter Tryz.func77, Tryz.ntmps77
    go_wp2
    go_ret;exact ⟨rfl, rfl⟩
  have hp : 0 < s.size := by omega
  have hp' : ¬ (↑s.size : Int) < 1 := by omega
  have hp'' : 1 <= (↑s.size : Int) := by omega
  clear h0;by_cases h1 : 20 < s.size
  · have R := hZ (letters_long anyC s h1)
    rw [R.out];have h1' : (20 : Int) < ↑s.size := by omega
    clear h1 R;go_enter Tryz.func77, Tryz.ntmps77
    go_wp2
    go_ret;exact ⟨rfl, rfl⟩
  have h1' : (↑s.size : Int) <= 20 := by omega
  have h1'' : ¬ (20 : Int) < ↑s.size := by omega
  go_enter Tryz.func77, Tryz.ntmps77
  go_wp2
  go_loop [5] (fun i => ∃ k : Nat, k <= s.size /\ i = .int .i64 k /\ Hid (∀ j, 0 <= j -> j < k -> anyC (bt s.data.toList j) = true)) (fun i => s.size - (intOf i).toNat)
  case atStart => exact ⟨0, by omega, rfl, hZ (fun j a b => by omega)⟩
  case round =>
    obtain ⟨k, hk, rfl, HK⟩ := hrel;by_cases hlt : k < s.size
    · have BK := hZ (bt_eq s k hlt)
      go_wp2
      all_goals
        first
        | (exfalso; simp_all <;> omega)
        | (go_ret
           exact ⟨ret_bool (letters_later anyC s k hlt (big_no BK.out (by unfold lowC digC upC; simp_all <;> omega))), rfl⟩)
        | (go_round
           case rel => exact ⟨k + 1, by omega, by go_num, hZ (upto_step (P := fun j => anyC (bt s.data.toList j)) HK.out (big_yes BK.out (by unfold lowC digC upC; simp_all <;> omega)))⟩
           case measure => simp [intOf]; omega)
    · go_wp2
      go_ret;exact ⟨ret_bool (letters_all anyC s hp (by omega) (fun j a => HK.out j (by omega) (by omega))), rfl⟩
theorem letters_pos {g : Int -> Bool} {s : ByteArray} (h : letters g s.data.toList = true) : 0 < s.size := by
  have := ((letters_iff _ _).1 h).1; rwa [len_size] at this
theorem refSmall_any (s : ByteArray) (w : World) (hs : s.size <= 9223372036854775807) :
    Calls Tryz.prog 50 #[.string s] w fun e w' => e = .returned (.bool (smallB s.data.toList)) /\ Below w.heap.size w w' := by
  rcases hid_or (letters lowDigC s.data.toList) with h | h
  · have R := hZ (small_none _ h.out)
    rw [R.out]; clear R
    go_enter Tryz.func50, Tryz.ntmps50
    go_wp2_with fail
    refine (letters_low _ _ hs).mono ?_; rintro e w' ⟨rfl, rfl⟩; rw [h.out]
    go_wp2_with fail
    refine (refKey_any _ _).mono ?_; rintro e w1 ⟨rfl, hb1⟩
    go_wp2
    go_ret;exact ⟨rfl, hb1⟩
  · have R := hZ (small_ref _ h.out)
    have hp := letters_pos h.out;have B0 := hZ (bt_eq s 0 hp);rw [R.out]; clear R
    rcases hid_or (keyB s.data.toList) with h2 | h2 <;> rw [h2.out]
    · rw [<- B0.out]
      go_enter Tryz.func50, Tryz.ntmps50
      go_wp2_with fail
      refine (letters_low _ _ hs).mono ?_; rintro e w' ⟨rfl, rfl⟩; rw [h.out]
      go_wp2_with fail
      refine (refKey_any _ _).mono ?_; rintro e w1 ⟨rfl, hb1⟩; rw [h2.out]
      go_wp2
      go_ret;exact ⟨rfl, hb1⟩
    · go_enter Tryz.func50, Tryz.ntmps50
      go_wp2_with fail
      refine (letters_low _ _ hs).mono ?_; rintro e w' ⟨rfl, rfl⟩; rw [h.out]
      go_wp2_with fail
      refine (refKey_any _ _).mono ?_; rintro e w1 ⟨rfl, hb1⟩; rw [h2.out]
      go_wp2
      go_ret;exact ⟨rfl, hb1⟩
theorem refGreat_any (s : ByteArray) (w : World) (hs : s.size <= 9223372036854775807) :
    Calls Tryz.prog 79 #[.string s] w fun e w' => e = .returned (.bool (greatB s.data.toList)) /\ w = w' := by
  rcases hid_or (letters anyC s.data.toList) with h | h
  · have R := hZ (great_none _ h.out)
    rw [R.out]; clear R
    go_enter Tryz.func79, Tryz.ntmps79
    go_wp2_with fail
    refine (letters_big _ _ hs).mono ?_; rintro e w' ⟨rfl, rfl⟩; rw [h.out]
    go_wp2
    go_ret;exact ⟨rfl, rfl⟩
  · have R := hZ (great_ref _ h.out)
    have hp := letters_pos h.out;have B0 := hZ (bt_eq s 0 hp);have E := hZ (show s.toList = s.data.toList from Lib.toList_data s);unfold greatB
    rw [R.out, <- B0.out, <- E.out]; clear R B0
    go_enter Tryz.func79, Tryz.ntmps79
    go_wp2_with fail
    refine (letters_big _ _ hs).mono ?_; rintro e w' ⟨rfl, rfl⟩; rw [h.out]
    go_wp2
    all_goals go_ret
    all_goals refine ⟨ret_bool ?_, rfl⟩
    all_goals (clear h E; rw [Bool.eq_iff_iff]; simp_all [wordB, words] <;> (intros; omega))
section
variable {P : Program}
theorem run_loadVar_struct (w : World) (b : Nat) (ty : TypeId) (vs : List Value) (ds : Array Field) (hty : P.underlying ty = some (.struct ds)) (hi : (P.info? ty).map (·.size) = some vs.length)
    (hc : ∀ i v, vs[i]? = some v -> w.cell? ⟨b, i, none⟩ = some v) : (loadVar ty ⟨b, 0, none⟩).run P w = .ok (.agg vs.toArray) w := by
  have hl : (loadCells ⟨b, 0, none⟩ vs.length).run P w = .ok vs.toArray w :=
    run_loadCells_list (P := P) w ⟨b, 0, none⟩ vs (fun j v hv => by
      have hadd : (⟨b, 0, none⟩ : Addr).add j = ⟨b, j, none⟩ := by unfold Addr.add; split <;> simp_all
      rw [hadd]; exact hc j v hv)
  cases hq : P.info? ty with
  | none => simp [hq] at hi
  | some i =>
    have hs : i.size = vs.length := by simpa [hq] using hi
    have hagg : (isAgg ty).run P w = .ok true w := by
      unfold isAgg
      rw [Sem.run_bind, run_underlying hty w];rfl
    simp [loadVar, Sem.run_bind, hagg, sizeOf, typeInfo, hq, hs, hl]
theorem ret_agg {fn : Func} {R : Ending -> World -> Prop} {a : Act} {w : World} {p u : Tmp} {ty : TypeId} {ds : Array Field} {vs : List Value} {b : Nat} {x : Value}
    (h : fn.results = #[.cell p ty, .tmp u]) (hp : a.tmps.getD p undef = .pointer (some ⟨b, 0, none⟩)) (hx : a.tmps.getD u undef = x)
    (hty : P.underlying ty = some (.struct ds)) (hi : (P.info? ty).map (·.size) = some vs.length) (hc : ∀ i v, vs[i]? = some v -> w.cell? ⟨b, i, none⟩ = some v)
    (hd : a.defers = []) (hR : R (.returned (.tuple #[.agg vs.toArray, x])) w) : bodyPost P fn R .ret a w := by
  refine bodyPost_ret (v := .tuple #[.agg vs.toArray, x]) ?_ hd hR;rw [results_cell_tmp h, hp, hx];simp [asAddr, Result.andThen, run_loadVar_struct w b ty vs ds hty hi hc, Sem.run_pure]
end
end Go.Proofs.YtddlmigofilejaaGreat
