/-
  Several texts in one: Walks of the calls of package ident: which bytes are letters and digits, keys, the types' words, how a name is spelled. No condition. · Walks of package ident: how a name is spelled, small names, great names. No condition but that a text's length is an int. · Walks of the reference: keys, letters, small names, great names. · Walks of the reference's small names and great names (IdD without the examples of layer 2's statements). · The reference's reader in memory, and the tokens that it reads. · The end of a call whose first result is a struct in memory: what its cells hold is what is handed back. A law over any program. · A result that is one struct, in memory; a struct of seven cells that is filled. Nothing of any program. · Types in new memory, while they are made: names and subs that grow; what a call that reads a type leaves.
-/
import Derived.Test.YtkgmdbkcldojnaaGreatDoorChecked
import Derived.Test.YtkgmdbkcldojnaaGreatDoorJ00
import Derived.WalkKit
import Derived.Lib.Hide
import Derived.WalkSpells
import Derived.WalkLawsBesides
import Derived.RegionTactic
import Derived.IntWalk
import Derived.LoopTactic
import Derived.Lib.Strings
import Derived.Deep.QuietTactic
import Derived.BigQuiet
import Derived.Lib.QuietBelow
import Derived.Deep.DeepCutAuto
import Derived.Deep.CutBlock
import Derived.Laws.ResultCell
import Derived.Laws.Rows
import Derived.Lib.SmallJoins
import Derived.Below
import Derived.Laws.Tables
import Derived.Deep.MidRow
import Derived.Laws.OwnMore
import Derived.Deep.AppendLies
/- Walks of the calls of package ident: which bytes are letters and digits, keys, the types' words, how a name is spelled. No condition. -/
namespace Go.Proofs.YtkgmdbkcldojnaaGreatDoor
open Go.RowKit
open M

set_option maxHeartbeats 400000 in
theorem lower_any (n : Int) (w : World) : Calls Tryz.prog 109 #[.int .u8 n] w fun e w' => e = .returned (.bool (lowC n)) ∧ w = w' := by
  go_enter Tryz.func109, Tryz.ntmps109
  go_wp2
  all_goals go_ret
  all_goals exact ⟨ret_bool (by unfold lowC; simp_all; try omega), rfl⟩
set_option maxHeartbeats 400000 in
theorem upper_any (n : Int) (w : World) : Calls Tryz.prog 130 #[.int .u8 n] w fun e w' => e = .returned (.bool (upC n)) ∧ w = w' := by
  go_enter Tryz.func130, Tryz.ntmps130
  go_wp2
  all_goals go_ret
  all_goals exact ⟨ret_bool (by unfold upC; simp_all; try omega), rfl⟩
set_option maxHeartbeats 400000 in
theorem digit_any (n : Int) (w : World) : Calls Tryz.prog 129 #[.int .u8 n] w fun e w' => e = .returned (.bool (digC n)) ∧ w = w' := by
  go_enter Tryz.func129, Tryz.ntmps129
  go_wp2
  all_goals go_ret
  all_goals exact ⟨ret_bool (by unfold digC; simp_all; try omega), rfl⟩
set_option maxHeartbeats 400000 in
theorem lowDig_any (n : Int) (w : World) : Calls Tryz.prog 110 #[.int .u8 n] w fun e w' => e = .returned (.bool (lowDigC n)) ∧ w = w' := by
  unfold lowDigC
  rcases hid_or (lowC n) with h | h <;> rw [h.out]
  all_goals
    go_enter Tryz.func110, Tryz.ntmps110
    go_wp2_with fail
    refine (lower_any _ _).mono ?_; rintro e w' ⟨rfl, rfl⟩; rw [h.out]
    go_wp2_with (go_at_call 129; refine (digit_any _ _).mono ?_; rintro e w' ⟨rfl, rfl⟩)
    go_ret
    exact ⟨rfl, rfl⟩
set_option maxHeartbeats 400000 in
theorem any_any (n : Int) (w : World) : Calls Tryz.prog 131 #[.int .u8 n] w fun e w' => e = .returned (.bool (anyC n)) ∧ w = w' := by
  unfold anyC
  rcases hid_or (lowC n) with h | h <;> rw [h.out]
  · rcases hid_or (upC n) with h2 | h2 <;> rw [h2.out]
    all_goals
      go_enter Tryz.func131, Tryz.ntmps131
      go_wp2_with fail
      refine (lower_any _ _).mono ?_; rintro e w' ⟨rfl, rfl⟩; rw [h.out]
      go_wp2_with fail
      refine (upper_any _ _).mono ?_; rintro e w' ⟨rfl, rfl⟩; rw [h2.out]
      go_wp2_with (go_at_call 129; refine (digit_any _ _).mono ?_; rintro e w' ⟨rfl, rfl⟩)
      go_ret
      exact ⟨rfl, rfl⟩
  · go_enter Tryz.func131, Tryz.ntmps131
    go_wp2_with fail
    refine (lower_any _ _).mono ?_; rintro e w' ⟨rfl, rfl⟩; rw [h.out]
    go_wp2
    go_ret
    exact ⟨rfl, rfl⟩

set_option maxHeartbeats 1000000 in
theorem key_any (s : ByteArray) (w : World) : Calls Tryz.prog 111 #[.string s] w fun e w' => e = .returned (.bool (keyB s.data.toList)) ∧ w = w' := by
  have E := Lib.hid (show s.toList = s.data.toList from Lib.toList_data s)
  go_enter Tryz.func111, Tryz.ntmps111
  go_wp2
  all_goals go_ret
  all_goals refine ⟨ret_bool ?_, rfl⟩
  all_goals (rw [← E.out]; clear E; simp_all [keyB, keys])
set_option maxHeartbeats 1000000 in
theorem word_any (s : ByteArray) (w : World) : Calls Tryz.prog 132 #[.string s] w fun e w' => e = .returned (.bool (wordB s.data.toList)) ∧ w = w' := by
  have E := Lib.hid (show s.toList = s.data.toList from Lib.toList_data s)
  go_enter Tryz.func132, Tryz.ntmps132
  go_wp2
  all_goals go_ret
  all_goals refine ⟨ret_bool ?_, rfl⟩
  all_goals (rw [← E.out]; clear E; simp_all [wordB, words])

end Go.Proofs.YtkgmdbkcldojnaaGreatDoor

/- Walks of package ident: how a name is spelled, small names, great names. No condition but that a text's length is an int. -/
namespace Go.Proofs.YtkgmdbkcldojnaaGreatDoor
open Go.RowKit
open M

theorem empty_facts (s : ByteArray) (h : s.size = 0) : s.toList = [] ∧ s.toList.isEmpty = true := by
  have hl : s.data.toList = [] := by rw [← List.length_eq_zero_iff, len_size]; exact h
  have g1 : s.toList = [] := by rw [Lib.toList_data, hl]
  exact ⟨g1, by rw [g1]; rfl⟩
theorem full_facts (s : ByteArray) (h : ¬ s.size = 0) : ¬ s.toList = [] ∧ s.toList.isEmpty = false := by
  have hl : s.data.toList ≠ [] := by intro e; apply h; rw [← len_size, e]; rfl
  have g1 : ¬ s.toList = [] := by rw [Lib.toList_data]; exact hl
  exact ⟨g1, by simpa using g1⟩

set_option maxHeartbeats 1000000 in
theorem spelled_low (s : ByteArray) (w : World) (hs : s.size ≤ 9223372036854775807) :
    Calls Tryz.prog 108 #[.string s, .func (.func 109) #[] #[], .func (.func 110) #[] #[]] w fun e w' => e = .returned (.bool (spell lowC lowDigC s.data.toList)) ∧ w = w' := by
  by_cases h0 : s.size = 0
  · have R := Lib.hid (spell_empty lowC lowDigC s h0)
    rw [R.out]
    obtain ⟨g1, g2⟩ := empty_facts s h0
    clear h0 R
    go_enter Tryz.func108, Tryz.ntmps108
    go_wp2
    go_ret
    exact ⟨rfl, rfl⟩
  obtain ⟨g1, g2⟩ := full_facts s h0
  have hp : 0 < s.size := by omega
  clear h0
  by_cases h1 : 20 < s.size
  · have R := Lib.hid (spell_long lowC lowDigC s h1)
    rw [R.out]
    have h1' : (20 : Int) < ↑s.size := by omega
    clear h1 R
    go_enter Tryz.func108, Tryz.ntmps108
    go_wp2
    go_ret
    exact ⟨rfl, rfl⟩
  have h1' : (↑s.size : Int) ≤ 20 := by omega
  have h1'' : ¬ (20 : Int) < ↑s.size := by omega
  have B0 := Lib.hid (bt_eq s 0 hp)
  rcases hid_or (lowC (bt s.data.toList 0)) with hf | hf
  · have R := Lib.hid (spell_first lowC lowDigC s hf.out)
    rw [R.out]
    clear h1 R
    go_enter Tryz.func108, Tryz.ntmps108
    go_wp2_with fail
    rw [B0.out]
    refine (lower_any _ _).mono ?_; rintro e w' ⟨rfl, rfl⟩; rw [hf.out]
    go_wp2
    go_ret
    exact ⟨rfl, rfl⟩
  go_enter Tryz.func108, Tryz.ntmps108
  go_wp2_with fail
  rw [B0.out]
  refine (lower_any _ _).mono ?_; rintro e w' ⟨rfl, rfl⟩; rw [hf.out]
  go_wp2
  go_loop [7] (fun i => ∃ k : Nat, 1 ≤ k ∧ k ≤ s.size ∧ i = .int .i64 k ∧ Hid (∀ j, 1 ≤ j → j < k → lowDigC (bt s.data.toList j) = true)) (fun i => s.size - (intOf i).toNat)
  case atStart => exact ⟨1, by omega, by omega, rfl, Lib.hid (fun j a b => by omega)⟩
  case round =>
    obtain ⟨k, hk1, hk, rfl, HK⟩ := hrel
    by_cases hlt : k < s.size
    · have BK := Lib.hid (bt_eq s k hlt)
      rcases hid_or (lowDigC (bt s.data.toList k)) with hg | hg
      · go_wp2_with fail
        rw [BK.out]
        refine (lowDig_any _ _).mono ?_; rintro e w' ⟨rfl, rfl⟩; rw [hg.out]
        go_wp2
        go_ret
        exact ⟨ret_bool (spell_later lowC lowDigC s k hk1 hlt hg.out), rfl⟩
      · go_wp2_with fail
        rw [BK.out]
        refine (lowDig_any _ _).mono ?_; rintro e w' ⟨rfl, rfl⟩; rw [hg.out]
        go_wp2
        go_round
        case rel => exact ⟨k + 1, by omega, by omega, by go_num, Lib.hid (upto_step (P := fun j => lowDigC (bt s.data.toList j)) HK.out hg.out)⟩
        case measure => simp [intOf]; omega
    · go_wp2
      go_ret
      exact ⟨ret_bool (spell_all lowC lowDigC s hp (by omega) hf.out (fun j a b => HK.out j a (by omega))), rfl⟩

set_option maxHeartbeats 1000000 in
theorem spelled_up (s : ByteArray) (w : World) (hs : s.size ≤ 9223372036854775807) :
    Calls Tryz.prog 108 #[.string s, .func (.func 130) #[] #[], .func (.func 131) #[] #[]] w fun e w' => e = .returned (.bool (spell upC anyC s.data.toList)) ∧ w = w' := by
  by_cases h0 : s.size = 0
  · have R := Lib.hid (spell_empty upC anyC s h0)
    rw [R.out]
    obtain ⟨g1, g2⟩ := empty_facts s h0
    clear h0 R
    go_enter Tryz.func108, Tryz.ntmps108
    go_wp2
    go_ret
    exact ⟨rfl, rfl⟩
  obtain ⟨g1, g2⟩ := full_facts s h0
  have hp : 0 < s.size := by omega
  clear h0
  by_cases h1 : 20 < s.size
  · have R := Lib.hid (spell_long upC anyC s h1)
    rw [R.out]
    have h1' : (20 : Int) < ↑s.size := by omega
    clear h1 R
    go_enter Tryz.func108, Tryz.ntmps108
    go_wp2
    go_ret
    exact ⟨rfl, rfl⟩
  have h1' : (↑s.size : Int) ≤ 20 := by omega
  have h1'' : ¬ (20 : Int) < ↑s.size := by omega
  have B0 := Lib.hid (bt_eq s 0 hp)
  rcases hid_or (upC (bt s.data.toList 0)) with hf | hf
  · have R := Lib.hid (spell_first upC anyC s hf.out)
    rw [R.out]
    clear h1 R
    go_enter Tryz.func108, Tryz.ntmps108
    go_wp2_with fail
    rw [B0.out]
    refine (upper_any _ _).mono ?_; rintro e w' ⟨rfl, rfl⟩; rw [hf.out]
    go_wp2
    go_ret
    exact ⟨rfl, rfl⟩
  go_enter Tryz.func108, Tryz.ntmps108
  go_wp2_with fail
  rw [B0.out]
  refine (upper_any _ _).mono ?_; rintro e w' ⟨rfl, rfl⟩; rw [hf.out]
  go_wp2
  go_loop [7] (fun i => ∃ k : Nat, 1 ≤ k ∧ k ≤ s.size ∧ i = .int .i64 k ∧ Hid (∀ j, 1 ≤ j → j < k → anyC (bt s.data.toList j) = true)) (fun i => s.size - (intOf i).toNat)
  case atStart => exact ⟨1, by omega, by omega, rfl, Lib.hid (fun j a b => by omega)⟩
  case round =>
    obtain ⟨k, hk1, hk, rfl, HK⟩ := hrel
    by_cases hlt : k < s.size
    · have BK := Lib.hid (bt_eq s k hlt)
      rcases hid_or (anyC (bt s.data.toList k)) with hg | hg
      · go_wp2_with fail
        rw [BK.out]
        refine (any_any _ _).mono ?_; rintro e w' ⟨rfl, rfl⟩; rw [hg.out]
        go_wp2
        go_ret
        exact ⟨ret_bool (spell_later upC anyC s k hk1 hlt hg.out), rfl⟩
      · go_wp2_with fail
        rw [BK.out]
        refine (any_any _ _).mono ?_; rintro e w' ⟨rfl, rfl⟩; rw [hg.out]
        go_wp2
        go_round
        case rel => exact ⟨k + 1, by omega, by omega, by go_num, Lib.hid (upto_step (P := fun j => anyC (bt s.data.toList j)) HK.out hg.out)⟩
        case measure => simp [intOf]; omega
    · go_wp2
      go_ret
      exact ⟨ret_bool (spell_all upC anyC s hp (by omega) hf.out (fun j a b => HK.out j a (by omega))), rfl⟩

set_option maxHeartbeats 400000 in
theorem small_any (s : ByteArray) (w : World) (hs : s.size ≤ 9223372036854775807) :
    Calls Tryz.prog 82 #[.string s] w fun e w' => e = .returned (.bool (smallB s.data.toList)) ∧ w = w' := by
  unfold smallB
  rcases hid_or (spell lowC lowDigC s.data.toList) with h | h <;> rw [h.out]
  · go_enter Tryz.func82, Tryz.ntmps82
    go_wp2_with fail
    refine (spelled_low _ _ hs).mono ?_; rintro e w' ⟨rfl, rfl⟩; rw [h.out]
    go_wp2
    go_ret
    exact ⟨rfl, rfl⟩
  · go_enter Tryz.func82, Tryz.ntmps82
    go_wp2_with fail
    refine (spelled_low _ _ hs).mono ?_; rintro e w' ⟨rfl, rfl⟩; rw [h.out]
    go_wp2_with fail
    refine (key_any _ _).mono ?_; rintro e w' ⟨rfl, rfl⟩
    go_wp2
    go_ret
    exact ⟨rfl, rfl⟩
set_option maxHeartbeats 400000 in
theorem great_any (s : ByteArray) (w : World) (hs : s.size ≤ 9223372036854775807) :
    Calls Tryz.prog 114 #[.string s] w fun e w' => e = .returned (.bool (greatB s.data.toList)) ∧ w = w' := by
  unfold greatB
  rcases hid_or (spell upC anyC s.data.toList) with h | h <;> rw [h.out]
  · go_enter Tryz.func114, Tryz.ntmps114
    go_wp2_with fail
    refine (spelled_up _ _ hs).mono ?_; rintro e w' ⟨rfl, rfl⟩; rw [h.out]
    go_wp2
    go_ret
    exact ⟨rfl, rfl⟩
  · go_enter Tryz.func114, Tryz.ntmps114
    go_wp2_with fail
    refine (spelled_up _ _ hs).mono ?_; rintro e w' ⟨rfl, rfl⟩; rw [h.out]
    go_wp2_with fail
    refine (word_any _ _).mono ?_; rintro e w' ⟨rfl, rfl⟩
    go_wp2
    go_ret
    exact ⟨rfl, rfl⟩

end Go.Proofs.YtkgmdbkcldojnaaGreatDoor

/- Walks of the reference: keys, letters, small names, great names. -/
namespace Go.Proofs.YtkgmdbkcldojnaaGreatDoor
open Go.RowKit
open M

end Go.Proofs.YtkgmdbkcldojnaaGreatDoor

/- Walks of the reference's small names and great names (IdD without the examples of layer 2's statements). -/
namespace Go.Proofs.YtkgmdbkcldojnaaGreatDoor
open Go.RowKit
open M

end Go.Proofs.YtkgmdbkcldojnaaGreatDoor

/- The reference's reader in memory, and the tokens that it reads. -/
namespace Go.Proofs.YtkgmdbkcldojnaaGreatDoor
open Go.RowKit
open Go.Sort
open M

/-- A slice's cells hold these tokens. -/
def TokAt (w : World) (A : Option Addr) (S : Toks) : Prop :=
  ∀ i, i < S.n → ∃ (g o : Nat) (y : Int), A = some ⟨g, o, none⟩ ∧ g < w.heap.size ∧ w.cell? ⟨g, o + i * 3, none⟩ = some (.int .i64 (S.K i)) ∧ w.cell? ⟨g, o + i * 3 + 1, none⟩ = some (.int .i64 y) ∧ w.cell? ⟨g, o + i * 3 + 2, none⟩ = some (.string (S.T i)) ∧ (S.T i).size ≤ 9223372036854775807
theorem TokAt.below {w w' : World} {A : Option Addr} {S : Toks} (h : TokAt w A S) (hb : Below w.heap.size w w') : TokAt w' A S := by
  intro i hi
  obtain ⟨g, o, y, hA, hg, h0, h1, h2, h3⟩ := h i hi
  exact ⟨g, o, y, hA, Nat.lt_of_lt_of_le hg hb.size, (hb.cell (p := ⟨g, _, none⟩) hg).trans h0, (hb.cell (p := ⟨g, _, none⟩) hg).trans h1, (hb.cell (p := ⟨g, _, none⟩) hg).trans h2, h3⟩

/-- Of what was there only the reader may have turned. -/
def Kp (r : Nat) (w w' : World) : Prop := w.grownBy w' (some r)
theorem Kp.refl (r : Nat) (w : World) : Kp r w w := ⟨rfl, rfl, rfl, Nat.le_refl _, fun _ _ _ => rfl⟩
theorem Kp.trans {r : Nat} {a b c : World} (h : Kp r a b) (k : Kp r b c) : Kp r a c :=
  ⟨k.os.trans h.os, k.tape.trans h.tape, k.output.trans h.output, Nat.le_trans h.size k.size, fun j hj hne => (k.block j (Nat.lt_of_lt_of_le hj h.size) hne).trans (h.block j hj hne)⟩
theorem Kp.of_below {r : Nat} {w w' : World} (h : Below w.heap.size w w') : Kp r w w' := ⟨h.os, h.tape, h.output, h.size, fun j hj _ => h.block j hj⟩
theorem Kp.below {r : Nat} {w w' : World} (h : Kp r w w') (hr : r < w.heap.size) : Below r w w' := ⟨h.os, h.tape, h.output, h.size, fun j hj => h.block j (by omega) (by simp; omega)⟩
theorem Kp.put {r : Nat} {w w' : World} (h : Kp r w w') (i : Nat) (v : Value) : Kp r w (w'.setCell ⟨r, i, none⟩ v) :=
  ⟨h.os, h.tape, h.output, by have := h.size; simpa using this, fun j hj hne => by
    rw [Below.heap_setCell _ _ _ _ (by show j ≠ r; exact fun e => hne (by rw [e]))]
    exact h.block j hj hne⟩
theorem Kp.alloc {r : Nat} {w w' : World} (h : Kp r w w') (o : Obj) : Kp r w (w'.alloc o) := h.trans (Kp.of_below (below_new (Below.refl _ _) o))

def psI (b : Nat) (q : Bool) (i : Nat) : Nat := if b = 0 ∧ q = true then i + 1 else i
def psB (b : Nat) (q : Bool) : Nat := if b = 0 ∧ q = false then 2 else b
theorem psI_bad {b : Nat} (q : Bool) (i : Nat) (h : b ≠ 0) : psI b q i = i := if_neg (fun x => h x.1)
theorem psB_bad {b : Nat} (q : Bool) (h : b ≠ 0) : psB b q = b := if_neg (fun x => h x.1)
/-- What every call of the reader stands on: the tokens, in a world ahead of the reader. -/
structure RdCtx (W : World) (r : Nat) (A : Option Addr) (S : Toks) (w : World) : Prop where
  toks : TokAt W A S
  below : Below W.heap.size W w
  le : W.heap.size ≤ r
  big : S.n ≤ 9223372036854775806
theorem RdCtx.on {W : World} {r : Nat} {A : Option Addr} {S : Toks} {w w' : World} (h : RdCtx W r A S w) (hk : Kp r w w') (hr : r < w.heap.size) : RdCtx W r A S w' := ⟨h.toks, h.below.trans ((hk.below hr).mono h.le), h.le, h.big⟩

end Go.Proofs.YtkgmdbkcldojnaaGreatDoor

/- The end of a call whose first result is a struct in memory: what its cells hold is what is handed back. A law over any program. -/
namespace Go.Proofs.YtkgmdbkcldojnaaGreatDoor
section
variable {P : Program}
theorem run_loadVar_struct (w : World) (b : Nat) (ty : TypeId) (vs : List Value) (ds : Array Field) (hty : P.underlying ty = some (.struct ds)) (hi : (P.info? ty).map (·.size) = some vs.length)
    (hc : ∀ i v, vs[i]? = some v → w.cell? ⟨b, i, none⟩ = some v) : (loadVar ty ⟨b, 0, none⟩).run P w = .ok (.agg vs.toArray) w := by
  have hl : (loadCells ⟨b, 0, none⟩ vs.length).run P w = .ok vs.toArray w :=
    run_loadCells_list (P := P) w ⟨b, 0, none⟩ vs (fun j v hv => by
      have hadd : (⟨b, 0, none⟩ : Addr).add j = ⟨b, j, none⟩ := by unfold Addr.add; split <;> simp_all
      rw [hadd]; exact hc j v hv)
  cases hq : P.info? ty with
  | none => simp [hq] at hi
  | some i =>
    have hs : i.size = vs.length := by simpa [hq] using hi
    have hagg : (isAgg ty).run P w = .ok true w := by
      unfold isAgg
      rw [Sem.run_bind, run_underlying hty w]
      rfl
    simp [loadVar, Sem.run_bind, hagg, sizeOf, typeInfo, hq, hs, hl]

theorem ret_agg {fn : Func} {R : Ending → World → Prop} {a : Act} {w : World} {p u : Tmp} {ty : TypeId} {ds : Array Field} {vs : List Value} {b : Nat} {x : Value}
    (h : fn.results = #[.cell p ty, .tmp u]) (hp : a.tmps.getD p undef = .pointer (some ⟨b, 0, none⟩)) (hx : a.tmps.getD u undef = x)
    (hty : P.underlying ty = some (.struct ds)) (hi : (P.info? ty).map (·.size) = some vs.length) (hc : ∀ i v, vs[i]? = some v → w.cell? ⟨b, i, none⟩ = some v)
    (hd : a.defers = []) (hR : R (.returned (.tuple #[.agg vs.toArray, x])) w) : bodyPost P fn R .ret a w := by
  refine bodyPost_ret (v := .tuple #[.agg vs.toArray, x]) ?_ hd hR
  rw [results_cell_tmp h, hp, hx]
  simp [asAddr, Result.andThen, run_loadVar_struct w b ty vs ds hty hi hc, Sem.run_pure]

end
end Go.Proofs.YtkgmdbkcldojnaaGreatDoor

/- A result that is one struct, in memory; a struct of seven cells that is filled. Nothing of any program. -/
namespace Go.Proofs.YtkgmdbkcldojnaaGreatDoor
open Go.RowKit

section
variable {P : Program}
theorem results_one {fn : Func} {p : Tmp} {ty : TypeId} (h : fn.results = #[.cell p ty]) (tmps : Array Value) (w : World) :
    (results fn tmps).run P w = ((asAddr (tmps.getD p undef)).run P w).andThen fun a w₁ => (loadVar ty a).run P w₁ := by
  simp only [results, h]
  simp [Sem.run_bind, Result.andThen]
theorem ret_agg1 {fn : Func} {R : Ending → World → Prop} {a : Act} {w : World} {p : Tmp} {ty : TypeId} {ds : Array Field} {vs : List Value} {b : Nat}
    (h : fn.results = #[.cell p ty]) (hp : a.tmps.getD p undef = .pointer (some ⟨b, 0, none⟩))
    (hty : P.underlying ty = some (.struct ds)) (hi : (P.info? ty).map (·.size) = some vs.length) (hc : ∀ i v, vs[i]? = some v → w.cell? ⟨b, i, none⟩ = some v)
    (hd : a.defers = []) (hR : R (.returned (.agg vs.toArray)) w) : bodyPost P fn R .ret a w := by
  refine bodyPost_ret (v := .agg vs.toArray) ?_ hd hR
  rw [results_one h, hp]
  simp [asAddr, Result.andThen, run_loadVar_struct w b ty vs ds hty hi hc]
theorem fill7 {w : World} {b : Nat} {T : TypeId} {fr : Nat × Nat} {z0 z1 z2 z3 z4 z5 z6 : Value} (h : w.heap[b]? = some (.cells #[z0, z1, z2, z3, z4, z5, z6] T fr)) (v0 v1 v2 v3 v4 v5 v6 : Value) :
    (((((((w.setCell ⟨b, 0, none⟩ v0).setCell ⟨b, 1, none⟩ v1).setCell ⟨b, 2, none⟩ v2).setCell ⟨b, 3, none⟩ v3).setCell ⟨b, 4, none⟩ v4).setCell ⟨b, 5, none⟩ v5).setCell ⟨b, 6, none⟩ v6).heap[b]? = some (.cells #[v0, v1, v2, v3, v4, v5, v6] T fr) := by
  have h0 := Joins.block_setCell (i := 0) h v0
  have h1 := Joins.block_setCell (i := 1) h0 v1
  have h2 := Joins.block_setCell (i := 2) h1 v2
  have h3 := Joins.block_setCell (i := 3) h2 v3
  have h4 := Joins.block_setCell (i := 4) h3 v4
  have h5 := Joins.block_setCell (i := 5) h4 v5
  have h6 := Joins.block_setCell (i := 6) h5 v6
  simpa using h6
theorem fill7_other {w : World} {b c : Nat} (hne : c ≠ b) (v0 v1 v2 v3 v4 v5 v6 : Value) :
    (((((((w.setCell ⟨b, 0, none⟩ v0).setCell ⟨b, 1, none⟩ v1).setCell ⟨b, 2, none⟩ v2).setCell ⟨b, 3, none⟩ v3).setCell ⟨b, 4, none⟩ v4).setCell ⟨b, 5, none⟩ v5).setCell ⟨b, 6, none⟩ v6).heap[c]? = w.heap[c]? := by
  rw [Below.heap_setCell _ _ _ _ hne, Below.heap_setCell _ _ _ _ hne, Below.heap_setCell _ _ _ _ hne, Below.heap_setCell _ _ _ _ hne, Below.heap_setCell _ _ _ _ hne, Below.heap_setCell _ _ _ _ hne, Below.heap_setCell _ _ _ _ hne]
theorem fill7_size {w : World} {b : Nat} (v0 v1 v2 v3 v4 v5 v6 : Value) :
    (((((((w.setCell ⟨b, 0, none⟩ v0).setCell ⟨b, 1, none⟩ v1).setCell ⟨b, 2, none⟩ v2).setCell ⟨b, 3, none⟩ v3).setCell ⟨b, 4, none⟩ v4).setCell ⟨b, 5, none⟩ v5).setCell ⟨b, 6, none⟩ v6).heap.size = w.heap.size := by simp
end


/-- A struct is stored whole into a block that is known whole. -/
theorem wpList_putRow {P : Program} {ops : Array Oper} {rest : List Oper} {a : Act} {w : World} {Q : Exit → Act → World → Prop} {d : Option Tmp} {T : TypeId} {p : String} {af : Array Edge} {x y : Operand} (ty : TypeId)
    (g : Nat) (cells : Array Value) (t : TypeId) (old : Array Value) (hg : w.heap[g]? = some (.cells old t (0, 0))) (hi : (P.info? ty).map (·.size) = some cells.size)
    (hold : old.size = cells.size) (h1 : cells.all (·.oneCell') = true) (hx : a.eval x = .pointer (some ⟨g, 0, none⟩)) (hy : a.eval y = .agg cells)
    (h : wpList P ops Q rest (a.put d undef) (w.setRow g cells)) : wpList P ops Q ({ dst := d, op := .store ty x y, type := T, pos := p, after := af, guard := none } :: rest) a w :=
  wpList_store_row rfl ty x y rfl g cells hx hy t old hg hi hold h1 h
/-- A struct is stored into the middle of a block. -/
theorem wpList_putMid {P : Program} {ops : Array Oper} {rest : List Oper} {a : Act} {w : World} {Q : Exit → Act → World → Prop} {d : Option Tmp} {T : TypeId} {p : String} {af : Array Edge} {x y : Operand} (ty : TypeId)
    (b o : Nat) (cells : Array Value) (ht : w.there b o cells.size) (hi : (P.info? ty).map (·.size) = some cells.size)
    (h1 : cells.all (·.oneCell') = true) (hx : a.eval x = .pointer (some ⟨b, o, none⟩)) (hy : a.eval y = .agg cells)
    (h : wpList P ops Q rest (a.put d undef) (w.setCells b o cells.toList)) : wpList P ops Q ({ dst := d, op := .store ty x y, type := T, pos := p, after := af, guard := none } :: rest) a w :=
  wpList_store_mid rfl ty x y rfl b o cells hx hy ht hi h1 h
end Go.Proofs.YtkgmdbkcldojnaaGreatDoor

/- Types in new memory, while they are made: names and subs that grow; what a call that reads a type leaves. -/
namespace Go.Proofs.YtkgmdbkcldojnaaGreatDoor
open Go.RowKit
open Go.Sort
open M

theorem Kp.blk {r : Nat} {a b : World} (h : Kp r a b) {j : Nat} (hj : j < a.heap.size) (hne : j ≠ r) : b.heap[j]? = a.heap[j]? := h.block j hj (by simpa using hne)
theorem Kp.grow {r : Nat} {w a b : World} {ob : Option Nat} (h : Kp r w a) (g : a.grownBy b ob) (ho : ∀ k, ob = some k → w.heap.size ≤ k) : Kp r w b :=
  ⟨g.os.trans h.os, g.tape.trans h.tape, g.output.trans h.output, Nat.le_trans h.size g.size, fun j hj hne => (g.block j (Nat.lt_of_lt_of_le hj h.size) (fun e => by have := ho j e.symm; omega)).trans (h.block j hj hne)⟩
/-- A type that lies in blocks that aren't struck out, none of which has turned. -/
theorem TyAt.move {S S' : Nat → Prop} {w w' : World} {l : List Value} {t : Ty} (h : TyAt (strike S w) l t) (hz : w.heap.size ≤ w'.heap.size) (hS : ∀ b, b < w.heap.size → ¬ S b → ¬ S' b ∧ w'.heap[b]? = w.heap[b]?) : TyAt (strike S' w') l t :=
  h.cells (by rw [strike_size, strike_size]; exact hz) fun b o x hx => by
    obtain ⟨h1, h2⟩ := strike_cell.1 hx
    obtain ⟨h3, h4⟩ := hS b (World.block_lt_of_cell? _ _ h2) h1
    exact strike_cell.2 ⟨h3, by rw [World.cell?_of_block (w := w) (a := ⟨b, o, none⟩) h4]; exact h2⟩
theorem TyAt.free {S : Nat → Prop} {w : World} {l : List Value} {t : Ty} (h : TyAt (strike S w) l t) : TyAt w l t :=
  h.cells (by rw [strike_size]; exact Nat.le_refl _) fun b o x hx => (strike_cell.1 hx).2

/-- A type without names and subs. -/
theorem TyAt.leaf (w : World) (k : Int) (p : ByteArray) (m : Int) (d n : ByteArray) (hp : p.size ≤ 9223372036854775807) (hd : d.size ≤ 9223372036854775807) (hn : n.size ≤ 9223372036854775807) :
    TyAt w [.int .i64 k, .string p, .int .i64 m, .string d, .string n, .slice none 0 0, .slice none 0 0] (.mk k p m d n [] []) :=
  .mk k p m d n [] [] none 0 none 0 (fun _ => [.nilIface, .nilIface, .nilIface, .nilIface, .nilIface, .nilIface, .nilIface]) hp hd hn (by simp) (by simp) (by simp) (fun i s h => by simp at h) (fun _ => rfl) (fun i t h => by simp at h) (fun i t h => by simp at h)
theorem TyAt.zero (w : World) : TyAt w [.int .i64 0, .string ⟨#[]⟩, .int .i64 0, .string ⟨#[]⟩, .string ⟨#[]⟩, .slice none 0 0, .slice none 0 0] noT := TyAt.leaf w 0 ⟨#[]⟩ 0 ⟨#[]⟩ ⟨#[]⟩ (by decide) (by decide) (by decide)
/-- A List of a type. -/
theorem TyAt.one {w : World} (k : Int) {g : Nat} {l : List Value} {s : Ty} {T : TypeId} {fr : Nat × Nat} {S : Nat → Prop} (hl : l.length = 7) (hT : TyAt (strike S w) l s) (hg : w.heap[g]? = some (.cells l.toArray T fr)) (hS : ¬ S g) :
    TyAt (strike S w) [.int .i64 k, .string ⟨#[]⟩, .int .i64 0, .string ⟨#[]⟩, .string ⟨#[]⟩, .slice none 0 0, .slice (some ⟨g, 0, none⟩) 1 1] (.mk k ⟨#[]⟩ 0 ⟨#[]⟩ ⟨#[]⟩ [] [s]) := by
  refine .mk k ⟨#[]⟩ 0 ⟨#[]⟩ ⟨#[]⟩ [] [s] none 0 (some ⟨g, 0, none⟩) 1 (fun _ => l) (by decide) (by decide) (by decide) (by simp) (by simp) (by simp) (fun i s h => by simp at h) (fun _ => hl) (fun i t h => ?_) (fun i t h => ?_)
  · obtain rfl : i = 0 := by have := (List.getElem?_eq_some_iff.1 h).1; simp at this; omega
    refine ⟨g, 0, rfl, by rw [strike_size]; exact (Array.getElem?_eq_some_iff.1 hg).1, fun j v hv => strike_cell.2 ⟨hS, ?_⟩⟩
    rw [Lib.cell_of_heap hg, ← hv, ← List.getElem?_toArray]
    congr 1; omega
  · obtain rfl : i = 0 := by have := (List.getElem?_eq_some_iff.1 h).1; simp at this; omega
    simp at h; subst h; exact hT

theorem flat7_at : ∀ (C : List (List Value)), (∀ l, l ∈ C → l.length = 7) → ∀ (i q : Nat) (l : List Value), C[i]? = some l → q < 7 → C.flatten[i * 7 + q]? = l[q]?
  | [], _, i, q, l, h, _ => by simp at h
  | a :: r, hC, i, q, l, h, hq => by
    have ha : a.length = 7 := hC a List.mem_cons_self
    rw [List.flatten_cons]
    cases i with
    | zero =>
      simp at h; subst h
      rw [List.getElem?_append_left (by omega)]
      congr 1; omega
    | succ i =>
      rw [List.getElem?_append_right (by omega), ha, show (i + 1) * 7 + q - 7 = i * 7 + q by omega]
      exact flat7_at r (fun l hl => hC l (List.mem_cons_of_mem _ hl)) i q l (by simpa using h) hq
/-- Names and subs that grow, each in a block of its own, from 'lo' on. -/
structure GrR (lo : Nat) (ns : List ByteArray) (n5 : Nat) (ss : List Ty) (n6 : Nat) (v5 v6 : Value) (w : World) : Prop where
  len5 : ns.length = n5
  len6 : ss.length = n6
  names : w.ownsRow lo 9 1 v5 n5 (ns.map Value.string)
  szs : ∀ s, s ∈ ns → s.size ≤ 9223372036854775807
  subs : ∃ C : List (List Value), C.length = n6 ∧ (∀ l, l ∈ C → l.length = 7) ∧ w.ownsRow lo 30 7 v6 n6 C.flatten ∧
    ∀ (i : Nat) (l : List Value) (t : Ty), C[i]? = some l → ss[i]? = some t → TyAt (strike (fun b => b < lo ∨ v5.ownBlock = some b ∨ v6.ownBlock = some b) w) l t
  apart : ∀ b, v5.ownBlock = some b → v6.ownBlock ≠ some b

/-- A type that lies beside both. -/
def GrT (lo : Nat) (v5 v6 : Value) (w : World) (l : List Value) (t : Ty) : Prop := TyAt (strike (fun b => b < lo ∨ v5.ownBlock = some b ∨ v6.ownBlock = some b) w) l t

theorem own_from {w w' : World} {B : Nat} {e : TypeId} {z : Nat} {v : Value} {n : Nat} {xs : List Value} (h : w.ownsRow B e z v n xs) (hb : ∀ b, B ≤ b → b < w.heap.size → w'.heap[b]? = w.heap[b]?) : w'.ownsRow B e z v n xs := by
  refine ⟨h.1, ?_⟩
  rcases h.2 with h | ⟨g, cap, cur, hv, hB, hg, rest⟩
  · exact .inl h
  · exact .inr ⟨g, cap, cur, hv, hB, (hb g hB (Array.getElem?_eq_some_iff.1 hg).1).trans hg, rest⟩

theorem GrR.keep {lo : Nat} {ns : List ByteArray} {n5 : Nat} {ss : List Ty} {n6 : Nat} {v5 v6 : Value} {w w' : World} (h : GrR lo ns n5 ss n6 v5 v6 w) (hz : w.heap.size ≤ w'.heap.size) (hb : ∀ b, lo ≤ b → b < w.heap.size → w'.heap[b]? = w.heap[b]?) : GrR lo ns n5 ss n6 v5 v6 w' := by
  obtain ⟨C, h1, h2, h3, h4⟩ := h.subs
  exact ⟨h.len5, h.len6, own_from h.names hb, h.szs, ⟨C, h1, h2, own_from h3 hb, fun i l t hl ht => (h4 i l t hl ht).move hz fun b hlt hS => ⟨hS, hb b (by
    rcases Nat.lt_or_ge b lo with h | h
    · exact absurd (.inl h) hS
    · exact h) hlt⟩⟩, h.apart⟩
theorem GrT.keep {lo : Nat} {v5 v6 : Value} {w w' : World} {l : List Value} {t : Ty} (h : GrT lo v5 v6 w l t) (hz : w.heap.size ≤ w'.heap.size) (hb : ∀ b, lo ≤ b → b < w.heap.size → w'.heap[b]? = w.heap[b]?) : GrT lo v5 v6 w' l t :=
  h.move hz fun b hlt hS => ⟨hS, hb b (by
    rcases Nat.lt_or_ge b lo with h | h
    · exact absurd (.inl h) hS
    · exact h) hlt⟩
theorem GrR.start (lo : Nat) (w : World) : GrR lo [] 0 [] 0 (.slice none 0 0) (.slice none 0 0) w :=
  ⟨rfl, rfl, World.ownsRow_nil _ _ _ _, fun s h => by simp at h, ⟨[], rfl, fun l h => by simp at h, World.ownsRow_nil _ _ _ _, fun i l t h => by simp at h⟩, fun b h => by simp [Value.ownBlock] at h⟩
/-- A type that was read ahead of what is made since. -/
theorem GrR.fresh {lo : Nat} {ns : List ByteArray} {n5 : Nat} {ss : List Ty} {n6 : Nat} {v5 v6 : Value} {w w1 : World} (h : GrR lo ns n5 ss n6 v5 v6 w) (hlo : lo ≤ w.heap.size) {l : List Value} {t : Ty} (hT : TyAt (strike (· < w.heap.size) w1) l t) : GrT lo v5 v6 w1 l t := by
  obtain ⟨C, -, -, h3, -⟩ := h.subs
  refine hT.move (Nat.le_refl _) fun b hlt hS => ⟨?_, rfl⟩
  rintro (e | e | e)
  · omega
  · have := (h.names.lt b e).2; omega
  · have := (h3.lt b e).2; omega

/-- At the end: a type in new memory alone. -/
theorem GrR.done {lo : Nat} {ns : List ByteArray} {n5 : Nat} {ss : List Ty} {n6 : Nat} {A5 A6 : Option Addr} {c5 c6 : Nat} {w : World} (h : GrR lo ns n5 ss n6 (.slice A5 n5 c5) (.slice A6 n6 c6) w) (k : Int) {m : Nat} (hm : m ≤ lo) (h5 : n5 ≤ 9223372036854775807) (h6 : n6 ≤ 9223372036854775807) :
    TyAt (strike (· < m) w) [.int .i64 k, .string ⟨#[]⟩, .int .i64 0, .string ⟨#[]⟩, .string ⟨#[]⟩, .slice A5 n5 c5, .slice A6 n6 c6] (.mk k ⟨#[]⟩ 0 ⟨#[]⟩ ⟨#[]⟩ ns ss) := by
  obtain ⟨C, hC, hC2, hown, hCs⟩ := h.subs
  obtain ⟨-, A, c, e, hN⟩ := own_names h.names (fun i s hi => h.szs s (List.mem_of_getElem? hi))
  simp at e
  obtain ⟨rfl, rfl⟩ := e
  have e5 := h.len5
  have e6 := h.len6
  subst e5 e6
  have hcap : ss.length ≤ c6 := by
    rcases hown.2 with ⟨e, h0⟩ | ⟨g, cap, cur, e, hB, hg, hnc, rest⟩
    · omega
    · simp at e; omega
  refine .mk k ⟨#[]⟩ 0 ⟨#[]⟩ ⟨#[]⟩ ns ss A5 c5 A6 c6 (fun i => (C[i]?).getD [.nilIface, .nilIface, .nilIface, .nilIface, .nilIface, .nilIface, .nilIface]) (by decide) (by decide) (by decide) h5 h6 hcap (hN _ (fun b hb => by omega)) (fun i => ?_) (fun i t ht => ?_) (fun i t ht => ?_)
  · rcases Nat.lt_or_ge i C.length with hi | hi
    · rw [List.getElem?_eq_getElem hi]; exact hC2 _ (List.getElem_mem hi)
    · rw [List.getElem?_eq_none hi]; rfl
  · have hi : i < C.length := by rw [hC]; exact (List.getElem?_eq_some_iff.1 ht).1
    rcases hown.2 with ⟨e, h0⟩ | ⟨g, cap, cur, e, hB, hg, hnc, hcm, hcs, htake⟩
    · omega
    · simp at e
      obtain ⟨rfl, rfl⟩ := e
      refine ⟨g, 0, rfl, by rw [strike_size]; exact (Array.getElem?_eq_some_iff.1 hg).1, fun j v hv => strike_cell.2 ⟨by omega, ?_⟩⟩
      have hj : j < 7 := by
        have := (List.getElem?_eq_some_iff.1 hv).1
        rw [List.getElem?_eq_getElem hi] at this
        have h7 := hC2 _ (List.getElem_mem hi)
        simp at this; omega
      have e1 := flat7_at C hC2 i j _ (List.getElem?_eq_getElem hi) hj
      rw [Lib.cell_of_heap hg, ← Array.getElem?_toList]
      have e2 : (cur.toList.take (ss.length * 7))[i * 7 + j]? = C[i][j]? := by rw [htake, e1]
      rw [List.getElem?_take] at e2
      rw [List.getElem?_eq_getElem hi] at hv
      split at e2
      · rw [show 0 + i * 7 + j = i * 7 + j by omega, e2]; exact hv
      · rename_i hn; omega
  · have hi : i < C.length := by rw [hC]; exact (List.getElem?_eq_some_iff.1 ht).1
    have hx : C[i]? = some C[i] := List.getElem?_eq_getElem hi
    have := hCs i C[i] t hx ht
    rw [hx]
    exact TyAt.move this (Nat.le_refl _) fun b hb hS => ⟨fun e => hS (.inl (by omega)), rfl⟩

/-- What is amiss ahead stays so. -/
def badR {α : Type} (b i : Nat) (x : Res α) : Res α := if b = 0 then x else .err b i
theorem badR_0 {α : Type} (i : Nat) (x : Res α) : badR 0 i x = x := rfl
theorem badR_ne {α : Type} {b : Nat} (i : Nat) (x : Res α) (h : b ≠ 0) : badR b i x = .err b i := if_neg h

theorem cell7 {w : World} {b : Nat} {v0 v1 v2 v3 v4 v5 v6 : Value} {T : TypeId} {fr : Nat × Nat} (h : w.heap[b]? = some (.cells #[v0, v1, v2, v3, v4, v5, v6] T fr)) : ∀ i v, ([v0, v1, v2, v3, v4, v5, v6] : List Value)[i]? = some v → w.cell? ⟨b, i, none⟩ = some v := fun i v hv => by
  rw [Lib.cell_of_heap h, ← hv, ← List.getElem?_toArray]
theorem tyOne {k m : Int} {p d n : ByteArray} {A5 A6 : Option Addr} {n5 c5 n6 c6 : Nat} : (#[.int .i64 k, .string p, .int .i64 m, .string d, .string n, .slice A5 n5 c5, .slice A6 n6 c6] : Array Value).all (·.oneCell') = true := Array.all_eq_true_iff_forall_mem.2 (fun v hv => by simp at hv; rcases hv with rfl | rfl | rfl | rfl | rfl | rfl | rfl <;> rfl)
theorem tySize : (Tryz.prog.info? 30).map (·.size) = some 7 := by kernel_rfl

end Go.Proofs.YtkgmdbkcldojnaaGreatDoor
