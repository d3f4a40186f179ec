/-
  Several texts in one.
-/
import Derived.Test.YtddlmigofilejaaGreatDoorK00
import Derived.Lib.QuietBelow
import Derived.Laws.ResultCell
import Derived.Laws.Rows
set_option maxRecDepth 100000
set_option maxHeartbeats 4000000
namespace Go.Proofs.YtddlmigofilejaaGreatDoor
open Go.RowKit
open M
def keyAt (k : Nat) : ByteArray := ⟨(keys.getD k []).toArray⟩
theorem keyAt_list (k : Nat) : (keyAt k).toList = keys.getD k [] := by rw [Lib.toList_data]; rfl
theorem key_no (l : List UInt8) (h : ∀ j, j < 12 -> (keys.getD j [] == l) = false) : keyB l = false := by
  have h0 := h 0 (by omega); have h1 := h 1 (by omega); have h2 := h 2 (by omega); have h3 := h 3 (by omega); have h4 := h 4 (by omega); have h5 := h 5 (by omega)
  have h6 := h 6 (by omega); have h7 := h 7 (by omega); have h8 := h 8 (by omega); have h9 := h 9 (by omega); have h10 := h 10 (by omega); have h11 := h 11 (by omega)
  simp only [keys, List.getD_cons_zero, List.getD_cons_succ, beq_eq_false_iff_ne] at h0 h1 h2 h3 h4 h5 h6 h7 h8 h9 h10 h11;rw [Bool.eq_false_iff];intro e;unfold keyB at e
  rw [List.contains_iff_mem] at e;simp only [keys, List.mem_cons, List.not_mem_nil, or_false] at e;rcases e with e | e | e | e | e | e | e | e | e | e | e | e <;> first | exact h0 e.symm | exact h1 e.symm | exact h2 e.symm | exact h3 e.symm | exact h4 e.symm | exact h5 e.symm | exact h6 e.symm | exact h7 e.symm | exact h8 e.symm | exact h9 e.symm | exact h10 e.symm | exact h11 e.symm
theorem key_yes (l : List UInt8) (k : Nat) (hk : k < 12) (h : (keys.getD k [] == l) = true) : keyB l = true := by
  unfold keyB
  rw [List.contains_iff_mem];have : keys.getD k [] = l := by simpa using h
  rw [<- this, List.getD_eq_getElem?_getD, List.getElem?_eq_getElem (by exact hk)];exact List.getElem_mem _
theorem ks_cell (w : World) (k : Nat) (hk : k < 12) : (w.alloc (.cells #[.string ⟨#[97, 115]⟩, .string ⟨#[97, 108, 105, 97, 115]⟩, .string ⟨#[100, 101, 112]⟩, .string ⟨#[104, 105, 100, 100, 101, 110]⟩, .string ⟨#[105, 109, 112, 111, 114, 116]⟩, .string ⟨#[105, 115]⟩, .string ⟨#[109, 111, 100, 117, 108, 101]⟩, .string ⟨#[111, 112, 97, 113, 117, 101]⟩, .string ⟨#[112, 97, 99, 107, 97, 103, 101]⟩, .string ⟨#[117, 115, 101]⟩, .string ⟨#[118, 97, 108]⟩, .string ⟨#[118, 101, 114, 115, 105, 111, 110]⟩] 9)).cell? ⟨w.heap.size, k, none⟩ = some (.string (keyAt k)) := by
  match k, hk with
  | 0, _ => go_simp; rfl
  | 1, _ => go_simp; rfl
  | 2, _ => go_simp; rfl
  | 3, _ => go_simp; rfl
  | 4, _ => go_simp; rfl
  | 5, _ => go_simp; rfl
  | 6, _ => go_simp; rfl
  | 7, _ => go_simp; rfl
  | 8, _ => go_simp; rfl
  | 9, _ => go_simp; rfl
  | 10, _ => go_simp; rfl
  | 11, _ => go_simp; rfl
theorem refKey_any (s : ByteArray) (w : World) : Calls Tryz.prog 81 #[.string s] w fun e w' => e = .returned (.bool (keyB s.data.toList)) /\ Below w.heap.size w w' := by
  have HC := zH (ks_cell w);have E := zH (show s.toList = s.data.toList from Lib.toList_data s);go_enter Tryz.func81, Tryz.ntmps81
  go_wp2
  go_loop [4] (fun i => ∃ k : Nat, k <= 12 /\ i = .int .i64 k /\ Hid (∀ j, 0 <= j -> j < k -> (keys.getD j [] == s.data.toList) = false)) (fun i => 12 - (intOf i).toNat)
  case atStart => exact ⟨0, by omega, rfl, zH (fun j _ a => by omega)⟩
  case round =>
    obtain ⟨k, hk, rfl, HK⟩ := hrel;by_cases hlt : k < 12
    · have hc := HC.out k hlt
      rcases hid_or ((keyAt k).toList == s.toList) with H | H
      · have H' := zH H.out
        rw [keyAt_list, E.out] at H';have q := H.out;go_wp2
        go_round
        case rel => exact ⟨k + 1, by omega, by go_num, zH (by
          have := upto_step (b := 0) (P := fun j => !(keys.getD j [] == s.data.toList)) (fun j a b => by rw [HK.out j a b]; rfl) (by rw [H'.out]; rfl)
          simpa using this)⟩
        case measure => simp [intOf]; omega
      · have H' := zH H.out
        rw [keyAt_list, E.out] at H';have q := H.out;go_wp2
        go_ret;exact ⟨ret_bool (key_yes _ k hlt H'.out), below_new (Below.refl _ _) _⟩
    · go_wp2
      go_ret;exact ⟨ret_bool (key_no _ (fun j a => HK.out j (by omega) (by omega))), below_new (Below.refl _ _) _⟩
theorem low_yes {x y : Int} (h : y = x) (c : lowC y = true \/ digC y = true) : lowDigC x = true := by subst h; unfold lowDigC; rcases c with c | c <;> simp [c]
theorem low_no {x y : Int} (h : y = x) (c : lowC y = false /\ digC y = false) : lowDigC x = false := by subst h; unfold lowDigC; simp [c]
theorem letters_low (s : ByteArray) (w : World) (hs : s.size <= 9223372036854775807) :
    Calls Tryz.prog 80 #[.string s, .bool false] w fun e w' => e = .returned (.bool (letters lowDigC s.data.toList)) /\ w = w' := by
  by_cases h0 : s.size = 0
  · have R := zH (letters_empty lowDigC s h0)
    rw [R.out];have h0' : (↑s.size : Int) < 1 := by omega
    clear h0 R;go_enter Tryz.func80, Tryz.ntmps80
    go_wp2
    go_ret;exact ⟨rfl, rfl⟩
  have hp : 0 < s.size := by omega
  have hp' : ¬ (↑s.size : Int) < 1 := by omega
  have hp'' : 1 <= (↑s.size : Int) := by omega
  clear h0;by_cases h1 : 20 < s.size
  · have R := zH (letters_long lowDigC s h1)
    rw [R.out];have h1' : (20 : Int) < ↑s.size := by omega
    clear h1 R;go_enter Tryz.func80, Tryz.ntmps80
    go_wp2
    go_ret;exact ⟨rfl, rfl⟩
  have h1' : (↑s.size : Int) <= 20 := by omega
  have h1'' : ¬ (20 : Int) < ↑s.size := by omega
  go_enter Tryz.func80, Tryz.ntmps80
  go_wp2
  go_loop [5] (fun i => ∃ k : Nat, k <= s.size /\ i = .int .i64 k /\ Hid (∀ j, 0 <= j -> j < k -> lowDigC (bt s.data.toList j) = true)) (fun i => s.size - (intOf i).toNat)
  case atStart => exact ⟨0, by omega, rfl, zH (fun j a b => by omega)⟩
  case round =>
    obtain ⟨k, hk, rfl, HK⟩ := hrel;by_cases hlt : k < s.size
    · have BK := zH (bt_eq s k hlt)
      go_wp2
      all_goals
        first
        | (exfalso; simp_all <;> omega)
        | (go_ret
           exact ⟨ret_bool (letters_later lowDigC s k hlt (low_no BK.out (by unfold lowC digC; simp_all <;> omega))), rfl⟩)
        | (go_round
           case rel => exact ⟨k + 1, by omega, by go_num, zH (upto_step (P := fun j => lowDigC (bt s.data.toList j)) HK.out (low_yes BK.out (by unfold lowC digC; simp_all <;> omega)))⟩
           case measure => simp [intOf]; omega)
    · go_wp2
      go_ret;exact ⟨ret_bool (letters_all lowDigC s hp (by omega) (fun j a => HK.out j (by omega) (by omega))), rfl⟩
theorem big_yes {x y : Int} (h : y = x) (c : lowC y = true \/ digC y = true \/ upC y = true) : anyC x = true := by subst h; unfold anyC; rcases c with c | c | c <;> simp [c]
theorem big_no {x y : Int} (h : y = x) (c : lowC y = false /\ digC y = false /\ upC y = false) : anyC x = false := by subst h; unfold anyC; simp [c]
theorem letters_big (s : ByteArray) (w : World) (hs : s.size <= 9223372036854775807) :
    Calls Tryz.prog 80 #[.string s, .bool true] w fun e w' => e = .returned (.bool (letters anyC s.data.toList)) /\ w = w' := by
  by_cases h0 : s.size = 0
  · have R := zH (letters_empty anyC s h0)
    rw [R.out];have h0' : (↑s.size : Int) < 1 := by omega
    clear h0 R;go_enter Tryz.func80, Tryz.ntmps80
    go_wp2
    go_ret;exact ⟨rfl, rfl⟩
  have hp : 0 < s.size := by omega
  have hp' : ¬ (↑s.size : Int) < 1 := by omega
  have hp'' : 1 <= (↑s.size : Int) := by omega
  clear h0;by_cases h1 : 20 < s.size
  · have R := zH (letters_long anyC s h1)
    rw [R.out];have h1' : (20 : Int) < ↑s.size := by omega
    clear h1 R;go_enter Tryz.func80, Tryz.ntmps80
    go_wp2
    go_ret;exact ⟨rfl, rfl⟩
  have h1' : (↑s.size : Int) <= 20 := by omega
  have h1'' : ¬ (20 : Int) < ↑s.size := by omega
  go_enter Tryz.func80, Tryz.ntmps80
  go_wp2
  go_loop [5] (fun i => ∃ k : Nat, k <= s.size /\ i = .int .i64 k /\ Hid (∀ j, 0 <= j -> j < k -> anyC (bt s.data.toList j) = true)) (fun i => s.size - (intOf i).toNat)
  case atStart => exact ⟨0, by omega, rfl, zH (fun j a b => by omega)⟩
  case round =>
    obtain ⟨k, hk, rfl, HK⟩ := hrel;by_cases hlt : k < s.size
    · have BK := zH (bt_eq s k hlt)
      go_wp2
      all_goals
        first
        | (exfalso; simp_all <;> omega)
        | (go_ret
           exact ⟨ret_bool (letters_later anyC s k hlt (big_no BK.out (by unfold lowC digC upC; simp_all <;> omega))), rfl⟩)
        | (go_round
           case rel => exact ⟨k + 1, by omega, by go_num, zH (upto_step (P := fun j => anyC (bt s.data.toList j)) HK.out (big_yes BK.out (by unfold lowC digC upC; simp_all <;> omega)))⟩
           case measure => simp [intOf]; omega)
    · go_wp2
      go_ret;exact ⟨ret_bool (letters_all anyC s hp (by omega) (fun j a => HK.out j (by omega) (by omega))), rfl⟩
theorem letters_pos {g : Int -> Bool} {s : ByteArray} (h : letters g s.data.toList = true) : 0 < s.size := by
  have := ((letters_iff _ _).1 h).1; rwa [len_size] at this
theorem refSmall_any (s : ByteArray) (w : World) (hs : s.size <= 9223372036854775807) :
    Calls Tryz.prog 41 #[.string s] w fun e w' => e = .returned (.bool (smallB s.data.toList)) /\ Below w.heap.size w w' := by
  rcases hid_or (letters lowDigC s.data.toList) with h | h
  · have R := zH (small_none _ h.out)
    rw [R.out]; clear R
    go_enter Tryz.func41, Tryz.ntmps41
    go_wp2_with fail
    refine (letters_low _ _ hs).mono ?_; rintro e w' ⟨rfl, rfl⟩; rw [h.out]
    go_wp2_with fail
    refine (refKey_any _ _).mono ?_; rintro e w1 ⟨rfl, hb1⟩
    go_wp2
    go_ret;exact ⟨rfl, hb1⟩
  · have R := zH (small_ref _ h.out)
    have hp := letters_pos h.out;have B0 := zH (bt_eq s 0 hp);rw [R.out]; clear R
    rcases hid_or (keyB s.data.toList) with h2 | h2 <;> rw [h2.out]
    · rw [<- B0.out]
      go_enter Tryz.func41, Tryz.ntmps41
      go_wp2_with fail
      refine (letters_low _ _ hs).mono ?_; rintro e w' ⟨rfl, rfl⟩; rw [h.out]
      go_wp2_with fail
      refine (refKey_any _ _).mono ?_; rintro e w1 ⟨rfl, hb1⟩; rw [h2.out]
      go_wp2
      go_ret;exact ⟨rfl, hb1⟩
    · go_enter Tryz.func41, Tryz.ntmps41
      go_wp2_with fail
      refine (letters_low _ _ hs).mono ?_; rintro e w' ⟨rfl, rfl⟩; rw [h.out]
      go_wp2_with fail
      refine (refKey_any _ _).mono ?_; rintro e w1 ⟨rfl, hb1⟩; rw [h2.out]
      go_wp2
      go_ret;exact ⟨rfl, hb1⟩
theorem refGreat_any (s : ByteArray) (w : World) (hs : s.size <= 9223372036854775807) :
    Calls Tryz.prog 42 #[.string s] w fun e w' => e = .returned (.bool (greatB s.data.toList)) /\ w = w' := by
  rcases hid_or (letters anyC s.data.toList) with h | h
  · have R := zH (great_none _ h.out)
    rw [R.out]; clear R
    go_enter Tryz.func42, Tryz.ntmps42
    go_wp2_with fail
    refine (letters_big _ _ hs).mono ?_; rintro e w' ⟨rfl, rfl⟩; rw [h.out]
    go_wp2
    go_ret;exact ⟨rfl, rfl⟩
  · have R := zH (great_ref _ h.out)
    have hp := letters_pos h.out;have B0 := zH (bt_eq s 0 hp);have E := zH (show s.toList = s.data.toList from Lib.toList_data s);unfold greatB
    rw [R.out, <- B0.out, <- E.out]; clear R B0
    go_enter Tryz.func42, Tryz.ntmps42
    go_wp2_with fail
    refine (letters_big _ _ hs).mono ?_; rintro e w' ⟨rfl, rfl⟩; rw [h.out]
    go_wp2
    all_goals go_ret
    all_goals refine ⟨ret_bool ?_, rfl⟩
    all_goals (clear h E; rw [Bool.eq_iff_iff]; simp_all [wordB, words] <;> (intros; omega))
end Go.Proofs.YtddlmigofilejaaGreatDoor
namespace Go.Proofs.YtddlmigofilejaaGreatDoor
open Go.RowKit
open Go.Sort
open M
def TokAt (w : World) (A : Option Addr) (S : Toks) : Prop :=
  ∀ i, i < S.n -> ∃ (g o : Nat) (y : Int), A = some ⟨g, o, none⟩ /\ g < w.heap.size /\ w.cell? ⟨g, o + i * 3, none⟩ = some (.int .i64 (S.K i)) /\ w.cell? ⟨g, o + i * 3 + 1, none⟩ = some (.int .i64 y) /\ w.cell? ⟨g, o + i * 3 + 2, none⟩ = some (.string (S.T i)) /\ (S.T i).size <= 9223372036854775807
theorem TokAt.below {w w' : World} {A : Option Addr} {S : Toks} (h : TokAt w A S) (hb : Below w.heap.size w w') : TokAt w' A S := by
  intro i hi;obtain ⟨g, o, y, hA, hg, h0, h1, h2, h3⟩ := h i hi;exact ⟨g, o, y, hA, Nat.lt_of_lt_of_le hg hb.size, (hb.cell (p := ⟨g, _, none⟩) hg).trans h0, (hb.cell (p := ⟨g, _, none⟩) hg).trans h1, (hb.cell (p := ⟨g, _, none⟩) hg).trans h2, h3⟩
def Rd (r : Nat) (A : Option Addr) (n cn : Nat) (i c b : Nat) (w : World) : Prop := w.heap[r]? = some (.cells #[.slice A n cn, .int .i64 i, .int .i64 c, .int .i64 b] 145 (0, 0))
def Kp (r : Nat) (w w' : World) : Prop := w.grownBy w' (some r)
theorem Kp.refl (r : Nat) (w : World) : Kp r w w := ⟨rfl, rfl, rfl, Nat.le_refl _, fun _ _ _ => rfl⟩
theorem Kp.trans {r : Nat} {a b c : World} (h : Kp r a b) (k : Kp r b c) : Kp r a c :=
  ⟨k.os.trans h.os, k.tape.trans h.tape, k.output.trans h.output, Nat.le_trans h.size k.size, fun j hj hne => (k.block j (Nat.lt_of_lt_of_le hj h.size) hne).trans (h.block j hj hne)⟩
theorem Kp.of_below {r : Nat} {w w' : World} (h : Below w.heap.size w w') : Kp r w w' := ⟨h.os, h.tape, h.output, h.size, fun j hj _ => h.block j hj⟩
theorem Kp.below {r : Nat} {w w' : World} (h : Kp r w w') (hr : r < w.heap.size) : Below r w w' := ⟨h.os, h.tape, h.output, h.size, fun j hj => h.block j (by omega) (by simp; omega)⟩
theorem Kp.put {r : Nat} {w w' : World} (h : Kp r w w') (i : Nat) (v : Value) : Kp r w (w'.setCell ⟨r, i, none⟩ v) :=
  ⟨h.os, h.tape, h.output, by have := h.size; simpa using this, fun j hj hne => by
    rw [Below.heap_setCell _ _ _ _ (by show j ≠ r; exact fun e => hne (by rw [e]))];exact h.block j hj hne⟩
theorem Kp.alloc {r : Nat} {w w' : World} (h : Kp r w w') (o : Obj) : Kp r w (w'.alloc o) := h.trans (Kp.of_below (below_new (Below.refl _ _) o))
theorem Rd.lt {r : Nat} {A : Option Addr} {n cn i c b : Nat} {w : World} (h : Rd r A n cn i c b w) : r < w.heap.size := (Array.getElem?_eq_some_iff.1 h).1
theorem Rd.on {r : Nat} {A : Option Addr} {n cn i c b : Nat} {w w' : World} (h : Rd r A n cn i c b w) (hb : Below w.heap.size w w') : Rd r A n cn i c b w' := (hb.block r h.lt).trans h
theorem Rd.c0 {r : Nat} {A : Option Addr} {n cn i c b : Nat} {w : World} (h : Rd r A n cn i c b w) : w.cell? ⟨r, 0, none⟩ = some (.slice A n cn) := cZ h 0
theorem Rd.c1 {r : Nat} {A : Option Addr} {n cn i c b : Nat} {w : World} (h : Rd r A n cn i c b w) : w.cell? ⟨r, 1, none⟩ = some (.int .i64 i) := cZ h 1
theorem Rd.c2 {r : Nat} {A : Option Addr} {n cn i c b : Nat} {w : World} (h : Rd r A n cn i c b w) : w.cell? ⟨r, 2, none⟩ = some (.int .i64 c) := cZ h 2
theorem Rd.c3 {r : Nat} {A : Option Addr} {n cn i c b : Nat} {w : World} (h : Rd r A n cn i c b w) : w.cell? ⟨r, 3, none⟩ = some (.int .i64 b) := cZ h 3
theorem Rd.f {r : Nat} {A : Option Addr} {n cn i c b : Nat} {w : World} (h : Rd r A n cn i c b w) (j : Nat) : w.frozen? ⟨r, j, none⟩ = false := Lib.frozen_of_heap h j
theorem Rd.at {r : Nat} {A : Option Addr} {n cn i c b : Nat} {w : World} (h : Rd r A n cn i c b w) (j : Nat) : Rd r A n cn j c b (w.setCell ⟨r, 1, none⟩ (.int .i64 j)) := by
  have := Joins.block_setCell (i := 1) h (.int .i64 j); unfold Rd; simpa using this
theorem Rd.cnt {r : Nat} {A : Option Addr} {n cn i c b : Nat} {w : World} (h : Rd r A n cn i c b w) (j : Nat) : Rd r A n cn i j b (w.setCell ⟨r, 2, none⟩ (.int .i64 j)) := by
  have := Joins.block_setCell (i := 2) h (.int .i64 j); unfold Rd; simpa using this
theorem Rd.bad {r : Nat} {A : Option Addr} {n cn i c b : Nat} {w : World} (h : Rd r A n cn i c b w) (j : Nat) : Rd r A n cn i c j (w.setCell ⟨r, 3, none⟩ (.int .i64 j)) := by
  have := Joins.block_setCell (i := 3) h (.int .i64 j); unfold Rd; simpa using this
def wrB (b : Nat) : Nat := if b = 0 then 2 else b
def psI (b : Nat) (q : Bool) (i : Nat) : Nat := if b = 0 /\ q = true then i + 1 else i
def psB (b : Nat) (q : Bool) : Nat := if b = 0 /\ q = false then 2 else b
theorem wrB_0 : wrB 0 = 2 := rfl
theorem wrB_ne {b : Nat} (h : b ≠ 0) : wrB b = b := if_neg h
theorem psI_yes (i : Nat) : psI 0 true i = i + 1 := rfl
theorem psI_no (b i : Nat) : psI b false i = i := if_neg (fun x => by cases x.2)
theorem psI_bad {b : Nat} (q : Bool) (i : Nat) (h : b ≠ 0) : psI b q i = i := if_neg (fun x => h x.1)
theorem psB_yes (b : Nat) : psB b true = b := if_neg (fun x => by cases x.2)
theorem psB_no : psB 0 false = 2 := rfl
theorem psB_bad {b : Nat} (q : Bool) (h : b ≠ 0) : psB b q = b := if_neg (fun x => h x.1)
structure RdCtx (W : World) (r : Nat) (A : Option Addr) (S : Toks) (w : World) : Prop where
  toks : TokAt W A S
  below : Below W.heap.size W w
  le : W.heap.size <= r
  big : S.n <= 9223372036854775806
theorem RdCtx.toksAt {W : World} {r : Nat} {A : Option Addr} {S : Toks} {w : World} (h : RdCtx W r A S w) : TokAt w A S := h.toks.below h.below
theorem RdCtx.on {W : World} {r : Nat} {A : Option Addr} {S : Toks} {w w' : World} (h : RdCtx W r A S w) (hk : Kp r w w') (hr : r < w.heap.size) : RdCtx W r A S w' := ⟨h.toks, h.below.trans ((hk.below hr).mono h.le), h.le, h.big⟩
theorem base_any (s : ByteArray) (w : World) : Calls Tryz.prog 131 #[.string s] w fun e w' => e = .returned (.int .i64 (baseT s.data.toList)) /\ w = w' := by
  have E := zH (show s.toList = s.data.toList from Lib.toList_data s);go_enter Tryz.func131, Tryz.ntmps131
  go_wp2
  all_goals go_ret
  all_goals refine ⟨ret_int' ?_, rfl⟩
  all_goals (rw [<- E.out]; clear E; simp_all [baseT])
theorem wrong_any {r : Nat} {A : Option Addr} {n cn i c b : Nat} {w : World} (h : Rd r A n cn i c b w) :
    Calls Tryz.prog 127 #[.pointer (some ⟨r, 0, none⟩)] w fun e w' => e = .returned (.tuple #[]) /\ Rd r A n cn i c (wrB b) w' /\ Kp r w w' := by
  have HR := zH h;have c3 := h.c3;have f3 := h.f 3;by_cases hb : b = 0
  · subst hb
    have H2 : Hid (Rd r A n cn i c 2 (w.setCell ⟨r, 3, none⟩ (.int .i64 2))) := zH (h.bad 2);have K2 : Hid (Kp r w (w.setCell ⟨r, 3, none⟩ (.int .i64 2))) := zH ((Kp.refl r w).put 3 _);clear h;go_enter Tryz.func127, Tryz.ntmps127
    go_wp2_with fail
    go_end0
    exact ⟨rfl, H2.out, K2.out⟩
  · have b1 : (((b : Nat) : Int) == 0) = false := by simp; omega
    have HB : Hid (wrB b = b) := zH (wrB_ne hb);clear h hb;go_enter Tryz.func127, Tryz.ntmps127
    go_wp2_with fail
    go_end0
    exact ⟨rfl, by rw [HB.out]; exact HR.out, Kp.refl _ _⟩
section
variable {P : Program}
theorem run_loadVar_struct (w : World) (b : Nat) (ty : TypeId) (vs : List Value) (ds : Array Field) (hty : P.underlying ty = some (.struct ds)) (hi : (P.info? ty).map (·.size) = some vs.length)
    (hc : ∀ i v, vs[i]? = some v -> w.cell? ⟨b, i, none⟩ = some v) : (loadVar ty ⟨b, 0, none⟩).run P w = .ok (.agg vs.toArray) w := by
  have hl : (loadCells ⟨b, 0, none⟩ vs.length).run P w = .ok vs.toArray w :=
    run_loadCells_list (P := P) w ⟨b, 0, none⟩ vs (fun j v hv => by
      have hadd : (⟨b, 0, none⟩ : Addr).add j = ⟨b, j, none⟩ := by unfold Addr.add; split <;> simp_all
      rw [hadd]; exact hc j v hv)
  cases hq : P.info? ty with
  | none => simp [hq] at hi
  | some i =>
    have hs : i.size = vs.length := by simpa [hq] using hi
    have hagg : (isAgg ty).run P w = .ok true w := by
      unfold isAgg
      rw [Sem.run_bind, run_underlying hty w];rfl
    simp [loadVar, Sem.run_bind, hagg, sizeOf, typeInfo, hq, hs, hl]
theorem ret_agg {fn : Func} {R : Ending -> World -> Prop} {a : Act} {w : World} {p u : Tmp} {ty : TypeId} {ds : Array Field} {vs : List Value} {b : Nat} {x : Value}
    (h : fn.results = #[.cell p ty, .tmp u]) (hp : a.tmps.getD p undef = .pointer (some ⟨b, 0, none⟩)) (hx : a.tmps.getD u undef = x)
    (hty : P.underlying ty = some (.struct ds)) (hi : (P.info? ty).map (·.size) = some vs.length) (hc : ∀ i v, vs[i]? = some v -> w.cell? ⟨b, i, none⟩ = some v)
    (hd : a.defers = []) (hR : R (.returned (.tuple #[.agg vs.toArray, x])) w) : bodyPost P fn R .ret a w := by
  refine bodyPost_ret (v := .tuple #[.agg vs.toArray, x]) ?_ hd hR;rw [results_cell_tmp h, hp, hx];simp [asAddr, Result.andThen, run_loadVar_struct w b ty vs ds hty hi hc, Sem.run_pure]
end
end Go.Proofs.YtddlmigofilejaaGreatDoor
