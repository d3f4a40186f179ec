/-
  Several texts in one: The walk of the reference's Tokens: the same tokens, or the place at which nothing stands. · The reference's Tokens, in the words that a caller needs.
-/
import Derived.Test.YtbknmokamcjgpaaGreatDoorJ22
import Derived.Deep.DeepCutAuto
import Derived.Deep.CutBlock
/- The walk of the reference's Tokens: the same tokens, or the place at which nothing stands. -/
namespace Go.Proofs.YtbknmokamcjgpaaGreatDoor
open Go.RowKit
open M

set_option maxHeartbeats 400000 in
theorem letter_raw (n : Int) (w : World) : Calls Tryz.prog 60 #[.int .u8 n] w fun e w' => e = .returned (.bool (lowC n || upC n)) ∧ w = w' := by
  go_enter Tryz.func60, Tryz.ntmps60
  go_wp2
  all_goals go_ret
  all_goals exact ⟨ret_bool (by unfold lowC upC; rw [Bool.eq_iff_iff]; simp_all <;> omega), rfl⟩
theorem letterR (n : Int) (b : Bool) (w : World) (h : (lowC n || upC n) = b) : Calls Tryz.prog 60 #[.int .u8 n] w fun e w' => e = .returned (.bool b) ∧ w = w' := by
  subst h; exact letter_raw n w
set_option maxHeartbeats 400000 in
theorem digit_raw (n : Int) (w : World) : Calls Tryz.prog 61 #[.int .u8 n] w fun e w' => e = .returned (.bool (digC n)) ∧ w = w' := by
  go_enter Tryz.func61, Tryz.ntmps61
  go_wp2
  all_goals go_ret
  all_goals exact ⟨ret_bool (by unfold digC; simp_all; try omega), rfl⟩
theorem digitR (n : Int) (b : Bool) (w : World) (h : digC n = b) : Calls Tryz.prog 61 #[.int .u8 n] w fun e w' => e = .returned (.bool b) ∧ w = w' := by
  subst h; exact digit_raw n w

/-- What the reference's Tokens comes to. -/
def RefPost (s : ByteArray) (w : World) (e : Ending) (w' : World) : Prop :=
  Below w.heap.size w w' ∧
    ((∃ (v : Value) (ts : List Tok), fin s 0 [] = (ts, -1) ∧ e = .returned (.tuple #[v, .int .i64 (-1)]) ∧ w'.ownsRow w.heap.size 39 3 v ts.length (rowCells ts) ∧ ts.length ≤ s.size) ∨
     (∃ k : Nat, fin s 0 [] = ([], (k : Int)) ∧ e = .returned (.tuple #[.slice none 0 0, .int .i64 k])))

/-- What stands at a place at which no blank and no remark does. -/
theorem item_rest (l : List UInt8) (k : Nat) (x : Int) (e : bt l k = x) (h1 : x ≠ 32) (h2 : x ≠ 9) (h3 : x ≠ 10) (h4 : x ≠ 35) : item l k =
    if lowC (bt l k) = true then (1, stop anyC l (k + 1))
    else if upC (bt l k) = true then (2, stop anyC l (k + 1))
    else if digC (bt l k) = true then (3, stop digC l (k + 1))
    else if twoC (bt l k) (bt l (k + 1)) = true then (4, k + 2)
    else if signC (bt l k) = true then (4, k + 1)
    else (5, k) := by
  subst e
  unfold item
  rw [if_neg (by unfold blankC; simp [h1, h2, h3]), if_neg h4]

set_option maxRecDepth 100000 in
set_option maxHeartbeats 8000000 in
theorem refTokens_any (s : ByteArray) (w : World) (hs : s.size ≤ 20000) : Calls Tryz.prog 27 #[.string s] w (RefPost s w) := by
  obtain ⟨i0, hi, hz0, hz1, hz2⟩ := info_parts infoTok
  have LS := Lib.hid (len_size s)
  go_enter Tryz.func27, Tryz.ntmps27
  go_wp2
  go_loopw [4, 5] (fun v i wr => ∃ (k : Nat) (acc : List Tok), k ≤ s.size ∧ i = .int .i64 k ∧ Hid (fin s 0 [] = fin s k acc) ∧ acc.length ≤ k ∧ wr.ownsRow w.heap.size 39 3 v acc.length (rowCells acc) ∧ Below w.heap.size w wr) (fun _ i _ => s.size - (intOf i).toNat)
  case atStart => exact ⟨0, [], by omega, rfl, Lib.hid rfl, by simp, World.ownsRow_nil _ _ _ _, Below.refl _ _⟩
  case round =>
    obtain ⟨k, acc, hk, rfl, HF, hacc, hown, hb'⟩ := hrel
    obtain ⟨wo, rfl⟩ : ∃ wo : World, wo = wr := ⟨_, rfl⟩
    by_cases hlt : k < s.size
    · have XK := Lib.hid (bt_eq s k hlt)
      go_upto_block 2 with fail
      go_cut [7, 8] (fun s7 s8 wx => ∃ c k' : Nat, s7 = .int .i64 k' ∧ s8 = .int .i64 c ∧ Hid (item s.data.toList k = (c, k')) ∧ c ≠ 5 ∧ k + 1 ≤ k' ∧ k' ≤ s.size ∧ wo = wx)
      case first =>
        by_cases hb : (s[k].toNat : Int) = 32 ∨ (s[k].toNat : Int) = 9 ∨ (s[k].toNat : Int) = 10
        · have R := Lib.hid (item_blank s.data.toList k _ XK.out.symm hb)
          rcases hb with hx | hx | hx
          · as_aux_lemma =>
            have a32 : ((s[k].toNat : Int) == 32) = true := by rw [hx]; rfl
            clear hx
            go_wp2
            go_meet
            exact ⟨0, k + 1, by go_num, rfl, R, by decide, by omega, by omega, rfl⟩
          · as_aux_lemma =>
            have a32 : ((s[k].toNat : Int) == 32) = false := by rw [hx]; rfl
            have a9 : ((s[k].toNat : Int) == 9) = true := by rw [hx]; rfl
            clear hx
            go_wp2
            go_meet
            exact ⟨0, k + 1, by go_num, rfl, R, by decide, by omega, by omega, rfl⟩
          · as_aux_lemma =>
            have a32 : ((s[k].toNat : Int) == 32) = false := by rw [hx]; rfl
            have a9 : ((s[k].toNat : Int) == 9) = false := by rw [hx]; rfl
            have a10 : ((s[k].toNat : Int) == 10) = true := by rw [hx]; rfl
            clear hx
            go_wp2
            go_meet
            exact ⟨0, k + 1, by go_num, rfl, R, by decide, by omega, by omega, rfl⟩

        have n1 : (s[k].toNat : Int) ≠ 32 := fun e => hb (.inl e)
        have n2 : (s[k].toNat : Int) ≠ 9 := fun e => hb (.inr (.inl e))
        have n3 : (s[k].toNat : Int) ≠ 10 := fun e => hb (.inr (.inr e))
        clear hb
        have a32 : ((s[k].toNat : Int) == 32) = false := by simpa using n1
        have a9 : ((s[k].toNat : Int) == 9) = false := by simpa using n2
        have a10 : ((s[k].toNat : Int) == 10) = false := by simpa using n3
        by_cases hx : (s[k].toNat : Int) = 35
        · as_aux_lemma =>
          have I : Hid (item s.data.toList k = (0, stop lineC s.data.toList (k + 1))) := Lib.hid (item_rem _ _ (XK.out.symm.trans hx))
          have a35 : ((s[k].toNat : Int) == 35) = true := by rw [hx]; rfl
          clear hx n1 n2 n3
          go_wp2_with fail
          go_loop [7] (fun kv => ∃ j : Nat, k + 1 ≤ j ∧ j ≤ s.size ∧ kv = .int .i64 j ∧ Hid (∀ q, k + 1 ≤ q → q < j → lineC (bt s.data.toList q) = true)) (fun kv => s.size - (intOf kv).toNat)
          case atStart => exact ⟨k + 1, by omega, by omega, by go_num, Lib.hid (fun q a b => by omega)⟩
          case round =>
            obtain ⟨j, hj1, hj2, rfl, HQ⟩ := hrel
            by_cases hlj : j < s.size
            · have YB := Lib.hid (bt_eq s j hlj)
              rcases hid_or ((s[j].toNat : Int) == 10) with D | D
              · have G : Hid (lineC (bt s.data.toList j) = true) := Lib.hid (by unfold lineC; rw [← YB.out, D.out]; rfl)
                have d := D.out
                go_wp2
                go_round
                case rel => exact ⟨j + 1, by omega, by omega, by go_num, Lib.hid (upto_step (P := fun q => lineC (bt s.data.toList q)) HQ.out G.out)⟩
                case measure => simp [intOf]; omega
              · have G : Hid (lineC (bt s.data.toList j) = false) := Lib.hid (by unfold lineC; rw [← YB.out, D.out]; rfl)
                have d := D.out
                have R : Hid (stop lineC s.data.toList (k + 1) = j) := Lib.hid (stop_eq _ _ _ _ hj1 (by rw [LS.out]; exact hj2) HQ.out (.inr G.out))
                go_wp2
                go_meet
                exact ⟨0, j, rfl, rfl, Lib.hid (by rw [I.out, R.out]), by decide, hj1, hj2, rfl⟩
            · have R : Hid (stop lineC s.data.toList (k + 1) = j) := Lib.hid (stop_eq _ _ _ _ hj1 (by rw [LS.out]; exact hj2) HQ.out (.inl (by rw [LS.out]; omega)))
              go_wp2
              go_meet
              exact ⟨0, j, rfl, rfl, Lib.hid (by rw [I.out, R.out]), by decide, hj1, hj2, rfl⟩
        have a35 : ((s[k].toNat : Int) == 35) = false := by simpa using hx
        have XN := Lib.hid (item_rest s.data.toList k _ XK.out.symm n1 n2 n3 hx)
        clear n1 n2 n3 hx
        rcases hid_or (lowC (bt s.data.toList k)) with L | L
        rotate_left
        · as_aux_lemma =>
          have I : Hid (item s.data.toList k = (1, stop anyC s.data.toList (k + 1))) := Lib.hid (by rw [XN.out, if_pos L.out])
          have g90 : ¬ (s[k].toNat : Int) ≤ 90 := by rw [XK.out]; have := L.out; unfold lowC at this; simp at this; omega
          have LU : Hid ((lowC (bt s.data.toList k) || upC (bt s.data.toList k)) = true) := Lib.hid (by rw [L.out]; rfl)
          go_wp2_with (go_at_call 60; refine (letterR _ true _ (by rw [XK.out]; exact LU.out)).mono ?_; rintro e w' ⟨rfl, rfl⟩)
          go_loop [7] (fun kv => ∃ j : Nat, k + 1 ≤ j ∧ j ≤ s.size ∧ kv = .int .i64 j ∧ Hid (∀ q, k + 1 ≤ q → q < j → anyC (bt s.data.toList q) = true)) (fun kv => s.size - (intOf kv).toNat)
          case atStart => exact ⟨k + 1, by omega, by omega, by go_num, Lib.hid (fun q a b => by omega)⟩
          case round =>
            obtain ⟨j, hj1, hj2, rfl, HQ⟩ := hrel
            by_cases hlj : j < s.size
            · have YB := Lib.hid (bt_eq s j hlj)
              have YB' := YB.out
              rcases hid_or (lowC (bt s.data.toList j) || upC (bt s.data.toList j)) with L | L
              · rcases hid_or (digC (bt s.data.toList j)) with D | D
                · have G : Hid (anyC (bt s.data.toList j) = false) := Lib.hid (by unfold anyC; rw [L.out, D.out]; rfl)
                  have R : Hid (stop anyC s.data.toList (k + 1) = j) := Lib.hid (stop_eq _ _ _ _ hj1 (by rw [LS.out]; exact hj2) HQ.out (.inr G.out))
                  clear YB'
                  go_wp2_with (first | (go_at_call 60; refine (letterR _ false _ (by rw [YB.out]; exact L.out)).mono ?_; rintro e w' ⟨rfl, rfl⟩) | (go_at_call 61; refine (digitR _ false _ (by rw [YB.out]; exact D.out)).mono ?_; rintro e w' ⟨rfl, rfl⟩))
                  go_meet
                  exact ⟨1, j, rfl, rfl, Lib.hid (by rw [I.out, R.out]), by decide, hj1, hj2, rfl⟩
                · have G : Hid (anyC (bt s.data.toList j) = true) := Lib.hid (by unfold anyC; rw [D.out]; simp)
                  clear YB'
                  go_wp2_with (first | (go_at_call 60; refine (letterR _ false _ (by rw [YB.out]; exact L.out)).mono ?_; rintro e w' ⟨rfl, rfl⟩) | (go_at_call 61; refine (digitR _ true _ (by rw [YB.out]; exact D.out)).mono ?_; rintro e w' ⟨rfl, rfl⟩))
                  go_round
                  case rel => exact ⟨j + 1, by omega, by omega, by go_num, Lib.hid (upto_step (P := fun q => anyC (bt s.data.toList q)) HQ.out G.out)⟩
                  case measure => simp [intOf]; omega
              · have G : Hid (anyC (bt s.data.toList j) = true) := Lib.hid (by unfold anyC; rw [L.out]; rfl)
                clear YB'
                go_wp2_with (go_at_call 60; refine (letterR _ true _ (by rw [YB.out]; exact L.out)).mono ?_; rintro e w' ⟨rfl, rfl⟩)
                go_round
                case rel => exact ⟨j + 1, by omega, by omega, by go_num, Lib.hid (upto_step (P := fun q => anyC (bt s.data.toList q)) HQ.out G.out)⟩
                case measure => simp [intOf]; omega
            · have R : Hid (stop anyC s.data.toList (k + 1) = j) := Lib.hid (stop_eq _ _ _ _ hj1 (by rw [LS.out]; exact hj2) HQ.out (.inl (by rw [LS.out]; omega)))
              go_wp2
              go_meet
              exact ⟨1, j, rfl, rfl, Lib.hid (by rw [I.out, R.out]), by decide, hj1, hj2, rfl⟩
        have XL : Hid (_) := Lib.hid (XN.out.trans (if_neg (by rw [L.out]; decide)))
        clear XN
        rcases hid_or (upC (bt s.data.toList k)) with U | U
        rotate_left
        · as_aux_lemma =>
          have I : Hid (item s.data.toList k = (2, stop anyC s.data.toList (k + 1))) := Lib.hid (by rw [XL.out, if_pos U.out])
          have g90 : (s[k].toNat : Int) ≤ 90 := by rw [XK.out]; have := U.out; unfold upC at this; simp at this; omega
          have LU : Hid ((lowC (bt s.data.toList k) || upC (bt s.data.toList k)) = true) := Lib.hid (by rw [L.out, U.out]; rfl)
          go_wp2_with (go_at_call 60; refine (letterR _ true _ (by rw [XK.out]; exact LU.out)).mono ?_; rintro e w' ⟨rfl, rfl⟩)
          go_loop [7] (fun kv => ∃ j : Nat, k + 1 ≤ j ∧ j ≤ s.size ∧ kv = .int .i64 j ∧ Hid (∀ q, k + 1 ≤ q → q < j → anyC (bt s.data.toList q) = true)) (fun kv => s.size - (intOf kv).toNat)
          case atStart => exact ⟨k + 1, by omega, by omega, by go_num, Lib.hid (fun q a b => by omega)⟩
          case round =>
            obtain ⟨j, hj1, hj2, rfl, HQ⟩ := hrel
            by_cases hlj : j < s.size
            · have YB := Lib.hid (bt_eq s j hlj)
              have YB' := YB.out
              rcases hid_or (lowC (bt s.data.toList j) || upC (bt s.data.toList j)) with L | L
              · rcases hid_or (digC (bt s.data.toList j)) with D | D
                · have G : Hid (anyC (bt s.data.toList j) = false) := Lib.hid (by unfold anyC; rw [L.out, D.out]; rfl)
                  have R : Hid (stop anyC s.data.toList (k + 1) = j) := Lib.hid (stop_eq _ _ _ _ hj1 (by rw [LS.out]; exact hj2) HQ.out (.inr G.out))
                  clear YB'
                  go_wp2_with (first | (go_at_call 60; refine (letterR _ false _ (by rw [YB.out]; exact L.out)).mono ?_; rintro e w' ⟨rfl, rfl⟩) | (go_at_call 61; refine (digitR _ false _ (by rw [YB.out]; exact D.out)).mono ?_; rintro e w' ⟨rfl, rfl⟩))
                  go_meet
                  exact ⟨2, j, rfl, rfl, Lib.hid (by rw [I.out, R.out]), by decide, hj1, hj2, rfl⟩
                · have G : Hid (anyC (bt s.data.toList j) = true) := Lib.hid (by unfold anyC; rw [D.out]; simp)
                  clear YB'
                  go_wp2_with (first | (go_at_call 60; refine (letterR _ false _ (by rw [YB.out]; exact L.out)).mono ?_; rintro e w' ⟨rfl, rfl⟩) | (go_at_call 61; refine (digitR _ true _ (by rw [YB.out]; exact D.out)).mono ?_; rintro e w' ⟨rfl, rfl⟩))
                  go_round
                  case rel => exact ⟨j + 1, by omega, by omega, by go_num, Lib.hid (upto_step (P := fun q => anyC (bt s.data.toList q)) HQ.out G.out)⟩
                  case measure => simp [intOf]; omega
              · have G : Hid (anyC (bt s.data.toList j) = true) := Lib.hid (by unfold anyC; rw [L.out]; rfl)
                clear YB'
                go_wp2_with (go_at_call 60; refine (letterR _ true _ (by rw [YB.out]; exact L.out)).mono ?_; rintro e w' ⟨rfl, rfl⟩)
                go_round
                case rel => exact ⟨j + 1, by omega, by omega, by go_num, Lib.hid (upto_step (P := fun q => anyC (bt s.data.toList q)) HQ.out G.out)⟩
                case measure => simp [intOf]; omega
            · have R : Hid (stop anyC s.data.toList (k + 1) = j) := Lib.hid (stop_eq _ _ _ _ hj1 (by rw [LS.out]; exact hj2) HQ.out (.inl (by rw [LS.out]; omega)))
              go_wp2
              go_meet
              exact ⟨2, j, rfl, rfl, Lib.hid (by rw [I.out, R.out]), by decide, hj1, hj2, rfl⟩
        have XU : Hid (_) := Lib.hid (XL.out.trans (if_neg (by rw [U.out]; decide)))
        clear XL
        have LU : Hid ((lowC (bt s.data.toList k) || upC (bt s.data.toList k)) = false) := Lib.hid (by rw [L.out, U.out]; rfl)
        rcases hid_or (digC (bt s.data.toList k)) with D | D
        rotate_left
        · as_aux_lemma =>
          have I : Hid (item s.data.toList k = (3, stop digC s.data.toList (k + 1))) := Lib.hid (by rw [XU.out, if_pos D.out])
          go_wp2_with (first | (go_at_call 60; refine (letterR _ false _ (by rw [XK.out]; exact LU.out)).mono ?_; rintro e w' ⟨rfl, rfl⟩) | (go_at_call 61; refine (digitR _ true _ (by rw [XK.out]; exact D.out)).mono ?_; rintro e w' ⟨rfl, rfl⟩))
          go_loop [7] (fun kv => ∃ j : Nat, k + 1 ≤ j ∧ j ≤ s.size ∧ kv = .int .i64 j ∧ Hid (∀ q, k + 1 ≤ q → q < j → digC (bt s.data.toList q) = true)) (fun kv => s.size - (intOf kv).toNat)
          case atStart => exact ⟨k + 1, by omega, by omega, by go_num, Lib.hid (fun q a b => by omega)⟩
          case round =>
            obtain ⟨j, hj1, hj2, rfl, HQ⟩ := hrel
            by_cases hlj : j < s.size
            · have YB := Lib.hid (bt_eq s j hlj)
              rcases hid_or (digC (bt s.data.toList j)) with D | D
              · have R : Hid (stop digC s.data.toList (k + 1) = j) := Lib.hid (stop_eq _ _ _ _ hj1 (by rw [LS.out]; exact hj2) HQ.out (.inr D.out))
                go_wp2_with (go_at_call 61; refine (digitR _ false _ (by rw [YB.out]; exact D.out)).mono ?_; rintro e w' ⟨rfl, rfl⟩)
                go_meet
                exact ⟨3, j, rfl, rfl, Lib.hid (by rw [I.out, R.out]), by decide, hj1, hj2, rfl⟩
              · go_wp2_with (go_at_call 61; refine (digitR _ true _ (by rw [YB.out]; exact D.out)).mono ?_; rintro e w' ⟨rfl, rfl⟩)
                go_round
                case rel => exact ⟨j + 1, by omega, by omega, by go_num, Lib.hid (upto_step (P := fun q => digC (bt s.data.toList q)) HQ.out D.out)⟩
                case measure => simp [intOf]; omega
            · have R : Hid (stop digC s.data.toList (k + 1) = j) := Lib.hid (stop_eq _ _ _ _ hj1 (by rw [LS.out]; exact hj2) HQ.out (.inl (by rw [LS.out]; omega)))
              go_wp2
              go_meet
              exact ⟨3, j, rfl, rfl, Lib.hid (by rw [I.out, R.out]), by decide, hj1, hj2, rfl⟩
        have XD : Hid (_) := Lib.hid (XU.out.trans (if_neg (by rw [D.out]; decide)))
        clear XU
        by_cases hx : (s[k].toNat : Int) = 45
        · as_aux_lemma =>
          have a45 : ((s[k].toNat : Int) == 45) = true := by rw [hx]; rfl
          have a46 : ((s[k].toNat : Int) == 46) = false := by rw [hx]; rfl
          by_cases hl2 : k + 1 < s.size
          · have hl2' : (↑k : Int) + 1 < ↑s.size := by omega
            have YB := Lib.hid (bt_eq s (k + 1) hl2)
            rcases hid_or ((s[k + 1].toNat : Int) == 62) with Y | Y
            · have TW : twoC (bt s.data.toList k) (bt s.data.toList (k + 1)) = false := by
                unfold twoC; rw [← XK.out, ← YB.out, hx, Y.out]; rfl
              have I : item s.data.toList k = (5, k) := by
                rw [XD.out, if_neg (by rw [TW]; decide), if_neg (by rw [← XK.out, hx]; decide)]
              have RF : Hid (fin s 0 [] = ([], (k : Int))) := Lib.hid (by rw [HF.out]; exact fin_bad acc hlt I)
              have y := Y.out
              clear hx TW
              go_wp2_with (first | (go_at_call 60; refine (letterR _ false _ (by rw [XK.out]; exact LU.out)).mono ?_; rintro e w' ⟨rfl, rfl⟩) | (go_at_call 61; refine (digitR _ false _ (by rw [XK.out]; exact D.out)).mono ?_; rintro e w' ⟨rfl, rfl⟩))
              go_ret2
              exact ⟨hb', .inr ⟨k, RF.out, rfl⟩⟩
            · have TW : twoC (bt s.data.toList k) (bt s.data.toList (k + 1)) = true := by
                unfold twoC; rw [← XK.out, ← YB.out, hx, Y.out]; rfl
              have I : Hid (item s.data.toList k = (4, k + 2)) := Lib.hid (by rw [XD.out, if_pos TW])
              have y := Y.out
              clear hx TW
              go_wp2_with (first | (go_at_call 60; refine (letterR _ false _ (by rw [XK.out]; exact LU.out)).mono ?_; rintro e w' ⟨rfl, rfl⟩) | (go_at_call 61; refine (digitR _ false _ (by rw [XK.out]; exact D.out)).mono ?_; rintro e w' ⟨rfl, rfl⟩))
              go_meet
              exact ⟨4, k + 2, by go_num, rfl, I, by decide, by omega, by omega, rfl⟩
          · have hl2' : ¬ (↑k : Int) + 1 < ↑s.size := by omega
            have TW : twoC (bt s.data.toList k) (bt s.data.toList (k + 1)) = false := by
              unfold twoC; rw [bt_past s.data.toList (k + 1) (by rw [LS.out]; omega), ← XK.out, hx]; rfl
            have I : item s.data.toList k = (5, k) := by
              rw [XD.out, if_neg (by rw [TW]; decide), if_neg (by rw [← XK.out, hx]; decide)]
            have RF : Hid (fin s 0 [] = ([], (k : Int))) := Lib.hid (by rw [HF.out]; exact fin_bad acc hlt I)
            clear hx TW
            go_wp2_with (first | (go_at_call 60; refine (letterR _ false _ (by rw [XK.out]; exact LU.out)).mono ?_; rintro e w' ⟨rfl, rfl⟩) | (go_at_call 61; refine (digitR _ false _ (by rw [XK.out]; exact D.out)).mono ?_; rintro e w' ⟨rfl, rfl⟩))
            go_ret2
            exact ⟨hb', .inr ⟨k, RF.out, rfl⟩⟩
        by_cases hx' : (s[k].toNat : Int) = 46
        · as_aux_lemma =>
          have hx := hx'
          clear hx'
          have a45 : ((s[k].toNat : Int) == 45) = false := by rw [hx]; rfl
          have a46 : ((s[k].toNat : Int) == 46) = true := by rw [hx]; rfl
          by_cases hl2 : k + 1 < s.size
          · have hl2' : (↑k : Int) + 1 < ↑s.size := by omega
            have YB := Lib.hid (bt_eq s (k + 1) hl2)
            rcases hid_or ((s[k + 1].toNat : Int) == 46) with Y | Y
            · have TW : twoC (bt s.data.toList k) (bt s.data.toList (k + 1)) = false := by
                unfold twoC; rw [← XK.out, ← YB.out, hx, Y.out]; rfl
              have I : Hid (item s.data.toList k = (4, k + 1)) := Lib.hid (by
                rw [XD.out, if_neg (by rw [TW]; decide), if_pos (by rw [← XK.out, hx]; decide)])
              have y := Y.out
              clear hx TW
              go_wp2_with (first | (go_at_call 60; refine (letterR _ false _ (by rw [XK.out]; exact LU.out)).mono ?_; rintro e w' ⟨rfl, rfl⟩) | (go_at_call 61; refine (digitR _ false _ (by rw [XK.out]; exact D.out)).mono ?_; rintro e w' ⟨rfl, rfl⟩))
              go_meet
              exact ⟨4, k + 1, by go_num, rfl, I, by decide, by omega, by omega, rfl⟩
            · have TW : twoC (bt s.data.toList k) (bt s.data.toList (k + 1)) = true := by
                unfold twoC; rw [← XK.out, ← YB.out, hx, Y.out]; rfl
              have I : Hid (item s.data.toList k = (4, k + 2)) := Lib.hid (by rw [XD.out, if_pos TW])
              have y := Y.out
              clear hx TW
              go_wp2_with (first | (go_at_call 60; refine (letterR _ false _ (by rw [XK.out]; exact LU.out)).mono ?_; rintro e w' ⟨rfl, rfl⟩) | (go_at_call 61; refine (digitR _ false _ (by rw [XK.out]; exact D.out)).mono ?_; rintro e w' ⟨rfl, rfl⟩))
              go_meet
              exact ⟨4, k + 2, by go_num, rfl, I, by decide, by omega, by omega, rfl⟩
          · have hl2' : ¬ (↑k : Int) + 1 < ↑s.size := by omega
            have TW : twoC (bt s.data.toList k) (bt s.data.toList (k + 1)) = false := by
              unfold twoC; rw [bt_past s.data.toList (k + 1) (by rw [LS.out]; omega), ← XK.out, hx]; rfl
            have I : Hid (item s.data.toList k = (4, k + 1)) := Lib.hid (by
              rw [XD.out, if_neg (by rw [TW]; decide), if_pos (by rw [← XK.out, hx]; decide)])
            clear hx TW
            go_wp2_with (first | (go_at_call 60; refine (letterR _ false _ (by rw [XK.out]; exact LU.out)).mono ?_; rintro e w' ⟨rfl, rfl⟩) | (go_at_call 61; refine (digitR _ false _ (by rw [XK.out]; exact D.out)).mono ?_; rintro e w' ⟨rfl, rfl⟩))
            go_meet
            exact ⟨4, k + 1, by go_num, rfl, I, by decide, by omega, by omega, rfl⟩
        have a45 : ((s[k].toNat : Int) == 45) = false := by simpa using hx
        have a46 : ((s[k].toNat : Int) == 46) = false := by simpa using hx'
        have TW : twoC (bt s.data.toList k) (bt s.data.toList (k + 1)) = false := by
          unfold twoC; rw [← XK.out, a45, a46]; rfl
        have XT : Hid (_) := Lib.hid (XD.out.trans (if_neg (by rw [TW]; decide)))
        clear XD TW hx hx'
        by_cases hx : (s[k].toNat : Int) = 123
        · as_aux_lemma =>
          have I : Hid (item s.data.toList k = (4, k + 1)) := Lib.hid (by rw [XT.out, if_pos (by rw [← XK.out, hx]; decide)])
          have a123 : ((s[k].toNat : Int) == 123) = true := by rw [hx]; rfl
          clear hx
          go_wp2_with (first | (go_at_call 60; refine (letterR _ false _ (by rw [XK.out]; exact LU.out)).mono ?_; rintro e w' ⟨rfl, rfl⟩) | (go_at_call 61; refine (digitR _ false _ (by rw [XK.out]; exact D.out)).mono ?_; rintro e w' ⟨rfl, rfl⟩))
          go_meet
          exact ⟨4, k + 1, by go_num, rfl, I, by decide, by omega, by omega, rfl⟩
        have a123 : ((s[k].toNat : Int) == 123) = false := by simpa using hx
        clear hx
        by_cases hx : (s[k].toNat : Int) = 125
        · as_aux_lemma =>
          have I : Hid (item s.data.toList k = (4, k + 1)) := Lib.hid (by rw [XT.out, if_pos (by rw [← XK.out, hx]; decide)])
          have a125 : ((s[k].toNat : Int) == 125) = true := by rw [hx]; rfl
          clear hx
          go_wp2_with (first | (go_at_call 60; refine (letterR _ false _ (by rw [XK.out]; exact LU.out)).mono ?_; rintro e w' ⟨rfl, rfl⟩) | (go_at_call 61; refine (digitR _ false _ (by rw [XK.out]; exact D.out)).mono ?_; rintro e w' ⟨rfl, rfl⟩))
          go_meet
          exact ⟨4, k + 1, by go_num, rfl, I, by decide, by omega, by omega, rfl⟩
        have a125 : ((s[k].toNat : Int) == 125) = false := by simpa using hx
        clear hx
        by_cases hx : (s[k].toNat : Int) = 40
        · as_aux_lemma =>
          have I : Hid (item s.data.toList k = (4, k + 1)) := Lib.hid (by rw [XT.out, if_pos (by rw [← XK.out, hx]; decide)])
          have a40 : ((s[k].toNat : Int) == 40) = true := by rw [hx]; rfl
          clear hx
          go_wp2_with (first | (go_at_call 60; refine (letterR _ false _ (by rw [XK.out]; exact LU.out)).mono ?_; rintro e w' ⟨rfl, rfl⟩) | (go_at_call 61; refine (digitR _ false _ (by rw [XK.out]; exact D.out)).mono ?_; rintro e w' ⟨rfl, rfl⟩))
          go_meet
          exact ⟨4, k + 1, by go_num, rfl, I, by decide, by omega, by omega, rfl⟩
        have a40 : ((s[k].toNat : Int) == 40) = false := by simpa using hx
        clear hx
        by_cases hx : (s[k].toNat : Int) = 41
        · as_aux_lemma =>
          have I : Hid (item s.data.toList k = (4, k + 1)) := Lib.hid (by rw [XT.out, if_pos (by rw [← XK.out, hx]; decide)])
          have a41 : ((s[k].toNat : Int) == 41) = true := by rw [hx]; rfl
          clear hx
          go_wp2_with (first | (go_at_call 60; refine (letterR _ false _ (by rw [XK.out]; exact LU.out)).mono ?_; rintro e w' ⟨rfl, rfl⟩) | (go_at_call 61; refine (digitR _ false _ (by rw [XK.out]; exact D.out)).mono ?_; rintro e w' ⟨rfl, rfl⟩))
          go_meet
          exact ⟨4, k + 1, by go_num, rfl, I, by decide, by omega, by omega, rfl⟩
        have a41 : ((s[k].toNat : Int) == 41) = false := by simpa using hx
        clear hx
        by_cases hx : (s[k].toNat : Int) = 91
        · as_aux_lemma =>
          have I : Hid (item s.data.toList k = (4, k + 1)) := Lib.hid (by rw [XT.out, if_pos (by rw [← XK.out, hx]; decide)])
          have a91 : ((s[k].toNat : Int) == 91) = true := by rw [hx]; rfl
          clear hx
          go_wp2_with (first | (go_at_call 60; refine (letterR _ false _ (by rw [XK.out]; exact LU.out)).mono ?_; rintro e w' ⟨rfl, rfl⟩) | (go_at_call 61; refine (digitR _ false _ (by rw [XK.out]; exact D.out)).mono ?_; rintro e w' ⟨rfl, rfl⟩))
          go_meet
          exact ⟨4, k + 1, by go_num, rfl, I, by decide, by omega, by omega, rfl⟩
        have a91 : ((s[k].toNat : Int) == 91) = false := by simpa using hx
        clear hx
        by_cases hx : (s[k].toNat : Int) = 93
        · as_aux_lemma =>
          have I : Hid (item s.data.toList k = (4, k + 1)) := Lib.hid (by rw [XT.out, if_pos (by rw [← XK.out, hx]; decide)])
          have a93 : ((s[k].toNat : Int) == 93) = true := by rw [hx]; rfl
          clear hx
          go_wp2_with (first | (go_at_call 60; refine (letterR _ false _ (by rw [XK.out]; exact LU.out)).mono ?_; rintro e w' ⟨rfl, rfl⟩) | (go_at_call 61; refine (digitR _ false _ (by rw [XK.out]; exact D.out)).mono ?_; rintro e w' ⟨rfl, rfl⟩))
          go_meet
          exact ⟨4, k + 1, by go_num, rfl, I, by decide, by omega, by omega, rfl⟩
        have a93 : ((s[k].toNat : Int) == 93) = false := by simpa using hx
        clear hx
        by_cases hx : (s[k].toNat : Int) = 60
        · as_aux_lemma =>
          have I : Hid (item s.data.toList k = (4, k + 1)) := Lib.hid (by rw [XT.out, if_pos (by rw [← XK.out, hx]; decide)])
          have a60 : ((s[k].toNat : Int) == 60) = true := by rw [hx]; rfl
          clear hx
          go_wp2_with (first | (go_at_call 60; refine (letterR _ false _ (by rw [XK.out]; exact LU.out)).mono ?_; rintro e w' ⟨rfl, rfl⟩) | (go_at_call 61; refine (digitR _ false _ (by rw [XK.out]; exact D.out)).mono ?_; rintro e w' ⟨rfl, rfl⟩))
          go_meet
          exact ⟨4, k + 1, by go_num, rfl, I, by decide, by omega, by omega, rfl⟩
        have a60 : ((s[k].toNat : Int) == 60) = false := by simpa using hx
        clear hx
        by_cases hx : (s[k].toNat : Int) = 62
        · as_aux_lemma =>
          have I : Hid (item s.data.toList k = (4, k + 1)) := Lib.hid (by rw [XT.out, if_pos (by rw [← XK.out, hx]; decide)])
          have a62 : ((s[k].toNat : Int) == 62) = true := by rw [hx]; rfl
          clear hx
          go_wp2_with (first | (go_at_call 60; refine (letterR _ false _ (by rw [XK.out]; exact LU.out)).mono ?_; rintro e w' ⟨rfl, rfl⟩) | (go_at_call 61; refine (digitR _ false _ (by rw [XK.out]; exact D.out)).mono ?_; rintro e w' ⟨rfl, rfl⟩))
          go_meet
          exact ⟨4, k + 1, by go_num, rfl, I, by decide, by omega, by omega, rfl⟩
        have a62 : ((s[k].toNat : Int) == 62) = false := by simpa using hx
        clear hx
        by_cases hx : (s[k].toNat : Int) = 44
        · as_aux_lemma =>
          have I : Hid (item s.data.toList k = (4, k + 1)) := Lib.hid (by rw [XT.out, if_pos (by rw [← XK.out, hx]; decide)])
          have a44 : ((s[k].toNat : Int) == 44) = true := by rw [hx]; rfl
          clear hx
          go_wp2_with (first | (go_at_call 60; refine (letterR _ false _ (by rw [XK.out]; exact LU.out)).mono ?_; rintro e w' ⟨rfl, rfl⟩) | (go_at_call 61; refine (digitR _ false _ (by rw [XK.out]; exact D.out)).mono ?_; rintro e w' ⟨rfl, rfl⟩))
          go_meet
          exact ⟨4, k + 1, by go_num, rfl, I, by decide, by omega, by omega, rfl⟩
        have a44 : ((s[k].toNat : Int) == 44) = false := by simpa using hx
        clear hx
        by_cases hx : (s[k].toNat : Int) = 58
        · as_aux_lemma =>
          have I : Hid (item s.data.toList k = (4, k + 1)) := Lib.hid (by rw [XT.out, if_pos (by rw [← XK.out, hx]; decide)])
          have a58 : ((s[k].toNat : Int) == 58) = true := by rw [hx]; rfl
          clear hx
          go_wp2_with (first | (go_at_call 60; refine (letterR _ false _ (by rw [XK.out]; exact LU.out)).mono ?_; rintro e w' ⟨rfl, rfl⟩) | (go_at_call 61; refine (digitR _ false _ (by rw [XK.out]; exact D.out)).mono ?_; rintro e w' ⟨rfl, rfl⟩))
          go_meet
          exact ⟨4, k + 1, by go_num, rfl, I, by decide, by omega, by omega, rfl⟩
        have a58 : ((s[k].toNat : Int) == 58) = false := by simpa using hx
        clear hx
        by_cases hx : (s[k].toNat : Int) = 61
        · as_aux_lemma =>
          have I : Hid (item s.data.toList k = (4, k + 1)) := Lib.hid (by rw [XT.out, if_pos (by rw [← XK.out, hx]; decide)])
          have a61 : ((s[k].toNat : Int) == 61) = true := by rw [hx]; rfl
          clear hx
          go_wp2_with (first | (go_at_call 60; refine (letterR _ false _ (by rw [XK.out]; exact LU.out)).mono ?_; rintro e w' ⟨rfl, rfl⟩) | (go_at_call 61; refine (digitR _ false _ (by rw [XK.out]; exact D.out)).mono ?_; rintro e w' ⟨rfl, rfl⟩))
          go_meet
          exact ⟨4, k + 1, by go_num, rfl, I, by decide, by omega, by omega, rfl⟩
        have a61 : ((s[k].toNat : Int) == 61) = false := by simpa using hx
        clear hx
        have I : item s.data.toList k = (5, k) := by
          rw [XT.out, if_neg (by
            rw [← XK.out]; unfold signC signs
            simp only [List.contains_cons, List.contains_nil, a123, a125, a40, a41, a91, a93, a60, a62, a44, a58, a46, a61]
            decide)]
        have RF : Hid (fin s 0 [] = ([], (k : Int))) := Lib.hid (by rw [HF.out]; exact fin_bad acc hlt I)
        clear I XT
        as_aux_lemma =>
        go_wp2_with (first | (go_at_call 60; refine (letterR _ false _ (by rw [XK.out]; exact LU.out)).mono ?_; rintro e w' ⟨rfl, rfl⟩) | (go_at_call 61; refine (digitR _ false _ (by rw [XK.out]; exact D.out)).mono ?_; rintro e w' ⟨rfl, rfl⟩))
        go_ret2
        exact ⟨hb', .inr ⟨k, RF.out, rfl⟩⟩
      case rest =>
        obtain ⟨c, k', rfl, rfl, I, c5, hk1, hk2, rfl⟩ := hcut
        rcases Nat.eq_zero_or_pos c with rfl | c0
        · as_aux_lemma =>
          have RF : Hid (fin s 0 [] = fin s k' acc) := Lib.hid (by rw [HF.out]; exact fin_skip acc hlt I.out)
          have c1 : ¬ ((0 : Nat) : Int) > 0 := by decide
          go_wp2
          go_roundw
          case rel => exact ⟨k', acc, hk2, rfl, RF, by omega, hown, hb'⟩
          case measure => simp [intOf]; omega
        · as_aux_lemma =>
          have RF : Hid (fin s 0 [] = fin s k' (acc ++ [⟨c, k, s.extract k k'⟩])) := Lib.hid (by rw [HF.out]; exact fin_tok acc hlt I.out (by omega) c5)
          have hp32 : ((acc.length + 1) * 32 ≤ 140737488355328) := by omega
          have hkk : k ≤ k' := by omega
          have c1 : (c : Int) > 0 := by omega
          clear I
          go_wp2_with (at_builtin; refine wpList_append_own _ rfl _ _ 37 rfl w.heap.size 39 i0 (.agg #[.int .i64 0, .int .i64 0, .string ⟨#[]⟩]) 3 32 Tryz.underlying37 hi hz0 hz1 hz2 rfl (by decide) _ _ _ rfl (hown.alloc _) ⟨wo.heap.size, 0, none⟩ 1 1 (tokCells ⟨c, k, s.extract k k'⟩) rfl rfl ?c1 ?c2 ?c3 ?c4 ?c5 ?_)
          case c1 =>
            intro j u hj
            match j, hj with
            | 0, hj => simp [tokCells] at hj; subst hj; go_simp
            | 1, hj => simp [tokCells] at hj; subst hj; simp [Addr.add]
            | 2, hj => simp [tokCells] at hj; subst hj; simp [Addr.add]
          case c2 => intro u hu; simp [tokCells] at hu; rcases hu with rfl | rfl | rfl <;> rfl
          case c3 => unfold maxLen; omega
          case c4 => exact hp32
          case c5 => have := hb'.size; simp; omega
          intro v3 w3 hown3 hg3 _
          have hb3 : Below w.heap.size w w3 := (below_new hb' _).grown hg3 (by have := hb'.size; simp; omega) (fun q hq => (hown.lt q hq).1)
          have hown4 : Hid (w3.ownsRow w.heap.size 39 3 v3 (acc ++ [(⟨c, k, s.extract k k'⟩ : Tok)]).length (rowCells (acc ++ [⟨c, k, s.extract k k'⟩]))) := Lib.hid (by
            rw [rowCells_snoc, List.length_append]; exact hown3)
          clear hown hown3 hg3 hb' hp32
          go_wp2
          go_roundw
          case rel => exact ⟨k', _, hk2, rfl, RF, by simp; omega, hown4.out, hb3⟩
          case measure => simp [intOf]; omega
    · as_aux_lemma =>
      have hk' : s.size ≤ k := by omega
      have RF : Hid (fin s 0 [] = (acc, -1)) := Lib.hid (by rw [HF.out]; exact fin_end s k acc hk')
      go_wp2
      go_ret2
      exact ⟨hb', .inl ⟨_, acc, RF.out, rfl, hown, by omega⟩⟩

end Go.Proofs.YtbknmokamcjgpaaGreatDoor

/- The reference's Tokens, in the words that a caller needs. -/
namespace Go.Proofs.YtbknmokamcjgpaaGreatDoor
open Go.RowKit
open M

theorem ref_yes (s : ByteArray) (ts : List Tok) (w : World) (hs : s.size ≤ 20000) (h : fin s 0 [] = (ts, -1)) :
    Calls Tryz.prog 27 #[.string s] w fun e w' => ∃ A c, e = .returned (.tuple #[.slice A ts.length c, .int .i64 (-1)]) ∧ RowAt w' A ts ∧ Below w.heap.size w w' := by
  refine (refTokens_any s w hs).mono ?_
  rintro e w' ⟨hb, ⟨v, ts', hf, rfl, hown, -⟩ | ⟨k, hf, -⟩⟩
  · rw [h] at hf
    obtain rfl : ts = ts' := (Prod.mk.inj hf).1
    obtain ⟨A, c, rfl, hr⟩ := own_rowAt hown
    exact ⟨A, c, rfl, hr, hb⟩
  · rw [h] at hf
    have := (Prod.mk.inj hf).2
    omega
theorem ref_no (s : ByteArray) (k : Nat) (w : World) (hs : s.size ≤ 20000) (h : fin s 0 [] = ([], (k : Int))) :
    Calls Tryz.prog 27 #[.string s] w fun e w' => e = .returned (.tuple #[.slice none 0 0, .int .i64 k]) ∧ Below w.heap.size w w' := by
  refine (refTokens_any s w hs).mono ?_
  rintro e w' ⟨hb, ⟨v, ts', hf, -⟩ | ⟨k', hf, rfl⟩⟩
  · rw [h] at hf
    have := (Prod.mk.inj hf).2
    omega
  · rw [h] at hf
    have : (k : Int) = k' := (Prod.mk.inj hf).2
    obtain rfl : k = k' := by omega
    exact ⟨rfl, hb⟩

end Go.Proofs.YtbknmokamcjgpaaGreatDoor
