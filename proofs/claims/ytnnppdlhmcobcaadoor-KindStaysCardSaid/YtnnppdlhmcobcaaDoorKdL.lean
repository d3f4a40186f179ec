/-
  Walks of package kind's hasLocal, and of the library's IndexFunc, ContainsFunc at it.
-/
import Derived.Test.YtnnppdlhmcobcaaDoorTyA
namespace Go.Proofs.YtnnppdlhmcobcaaDoor
open Go.RowKit
open M

set_option maxRecDepth 100000 in
set_option maxHeartbeats 4000000 in
theorem index_local (As : Option Addr) (cs n : Nat) (ss : List Ty) (w : World) (hn : ss.length = n) (hz : n ≤ 9223372036854775807) (hS : SubsAt w As ss)
    (IH : ∀ s, s ∈ ss → ∀ (v : Value) (w : World), TyV w v s → Calls Tryd.prog 25 #[v] w fun e w' => e = .returned (.bool (!plainT s)) ∧ Below w.heap.size w w') :
    Calls Tryd.prog 49 #[.slice As n cs, .func (.func 25) #[] #[]] w fun e w' => ∃ r : Int, e = .returned (.int .i64 r) ∧ decide (0 ≤ r) = !plainL ss ∧ Below w.heap.size w w' := by
  have HS := Lib.hid hS
  have HN := Lib.hid hn
  have HIH := Lib.hid IH
  clear hS hn IH
  go_enter Tryd.func49, Tryd.ntmps49
  go_wp2_with fail
  go_loopw [8] (fun i wr => ∃ k : Nat, k ≤ n ∧ i = .int .i64 k ∧ Hid (∀ j s, j < k → ss[j]? = some s → plainT s = true) ∧ Below w.heap.size w wr) (fun i _ => n - (intOf i).toNat)
  case atStart => exact ⟨0, by omega, rfl, Lib.hid (fun j s h => by omega), Below.refl _ _⟩
  case round =>
    obtain ⟨k, hk, rfl, HP, hb⟩ := hrel
    obtain ⟨wo, rfl⟩ : ∃ wo : World, wo = wr := ⟨_, rfl⟩
    by_cases hlt : k < n
    · obtain ⟨s, hs⟩ : ∃ s, ss[k]? = some s := ⟨_, List.getElem?_eq_getElem (by rw [HN.out]; exact hlt)⟩
      obtain ⟨g, o, v0, v1, v2, v3, v4, v5, v6, rfl, -, h0, h1, h2, h3, h4, h5, h6, hs7⟩ := HS.out.below hb k s hs
      have IHs := Lib.hid (HIH.out s (List.mem_of_getElem? hs) (.agg #[v0, v1, v2, v3, v4, v5, v6]) wo ⟨_, rfl, hs7⟩)
      have HSS := Lib.hid hs
      clear hs7 hs
      rcases hid_or (plainT s) with hp | hp
      · have R : Hid (decide (0 ≤ (k : Int)) = !plainL ss) := Lib.hid (by
          rw [show plainL ss = false by
            rw [Bool.eq_false_iff, ne_eq, plainL_mem]
            intro h
            have := h s (List.mem_of_getElem? HSS.out)
            rw [hp.out] at this; cases this]
          simp)
        go_wp2_with fail
        refine IHs.out.mono ?_; rintro e w2 ⟨rfl, hb2⟩; rw [hp.out]
        have hb3 := below_over hb hb2
        clear h0 h1 h2 h3 h4 h5 h6 hb hb2
        go_wp2_with fail
        go_ret
        exact ⟨_, rfl, R.out, hb3⟩
      · go_wp2_with fail
        refine IHs.out.mono ?_; rintro e w2 ⟨rfl, hb2⟩; rw [hp.out]
        have hb3 := below_over hb hb2
        clear h0 h1 h2 h3 h4 h5 h6 hb hb2
        go_wp2_with fail
        go_roundw
        case rel => exact ⟨k + 1, by omega, by go_num, Lib.hid (fun j q hj hq => by
          rcases Nat.lt_or_ge j k with a | a
          · exact HP.out j q a hq
          · rw [show j = k by omega, HSS.out] at hq
            obtain rfl := Option.some.inj hq
            exact hp.out), hb3⟩
        case measure => simp [intOf]; omega
    · have R : Hid (decide (0 ≤ (-1 : Int)) = !plainL ss) := Lib.hid (by
        rw [(plainL_mem ss).2 (fun s hs => ?_)]
        · rfl
        · obtain ⟨j, hj⟩ := List.getElem?_of_mem hs
          have hjl := (List.getElem?_eq_some_iff.1 hj).1
          exact HP.out j s (by rw [HN.out] at hjl; omega) hj)
      go_wp2_with fail
      go_ret
      exact ⟨_, rfl, R.out, hb⟩

set_option maxRecDepth 100000 in
set_option maxHeartbeats 1000000 in
theorem contains_local (As : Option Addr) (cs n : Nat) (ss : List Ty) (w : World) (hn : ss.length = n) (hz : n ≤ 9223372036854775807) (hS : SubsAt w As ss)
    (IH : ∀ s, s ∈ ss → ∀ (v : Value) (w : World), TyV w v s → Calls Tryd.prog 25 #[v] w fun e w' => e = .returned (.bool (!plainT s)) ∧ Below w.heap.size w w') :
    Calls Tryd.prog 36 #[.slice As n cs, .func (.func 25) #[] #[]] w fun e w' => e = .returned (.bool (!plainL ss)) ∧ Below w.heap.size w w' := by
  have HC := Lib.hid (index_local As cs n ss w hn hz hS IH)
  clear hn hS IH
  go_enter Tryd.func36, Tryd.ntmps36
  go_wp2_with fail
  refine HC.out.mono ?_; rintro e w2 ⟨r, rfl, hr, hb2⟩
  have HR := Lib.hid hr
  clear hr HC
  go_wp2_with fail
  go_ret
  exact ⟨ret_bool HR.out.symm, hb2⟩

set_option maxRecDepth 100000 in
set_option maxHeartbeats 1000000 in
theorem local_any (N : Nat) : ∀ (t : Ty), many t ≤ N → ∀ (v : Value) (w : World), TyV w v t →
    Calls Tryd.prog 25 #[v] w fun e w' => e = .returned (.bool (!plainT t)) ∧ Below w.heap.size w w' := by
  induction N with
  | zero => intro t h; have := many_pos t; omega
  | succ N ih =>
    intro t hN v w hv
    obtain ⟨l, rfl, hT⟩ := hv
    obtain ⟨An, cn, As, cs, rfl, -, -, -, hzn, hz, -, hS⟩ := hT.parts
    have HS := Lib.hid hS
    clear hT hS
    have HE := Lib.hid (plain_eq t)
    have IH : Hid (∀ s, s ∈ t.subs → ∀ (v : Value) (w : World), TyV w v s → Calls Tryd.prog 25 #[v] w fun e w' => e = .returned (.bool (!plainT s)) ∧ Below w.heap.size w w') :=
      Lib.hid (fun s hs v w hv => ih s (by have := manyL_mem t.subs s hs; have := manyL_eq t; omega) v w hv)
    clear ih hN
    generalize hn : t.subs.length = n at hz
    have HN := Lib.hid hn
    clear hn
    rcases hid_or (t.kind == 8) with h8 | h8
    · have h8' := h8.out
      have R : Hid ((!plainT t) = !plainL t.subs) := Lib.hid (by rw [HE.out, h8']; rfl)
      rw [R.out]
      clear R
      go_enter Tryd.func25, Tryd.ntmps25
      go_wp2_with fail
      refine (contains_local As cs n t.subs _ HN.out hz (HS.out.below (below_new (Below.refl _ _) _)) IH.out).mono ?_; rintro e w2 ⟨rfl, hb2⟩
      go_wp2_with fail
      go_ret
      exact ⟨rfl, (below_new (Below.refl _ _) _).trans (hb2.mono (by simp))⟩
    · have h8' := h8.out
      have R : Hid ((!plainT t) = true) := Lib.hid (by rw [HE.out, h8']; rfl)
      rw [R.out]
      clear R
      go_enter Tryd.func25, Tryd.ntmps25
      go_wp2_with fail
      go_ret
      exact ⟨rfl, below_new (Below.refl _ _) _⟩

end Go.Proofs.YtnnppdlhmcobcaaDoor
