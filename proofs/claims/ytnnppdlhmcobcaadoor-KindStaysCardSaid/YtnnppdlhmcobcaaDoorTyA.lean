/-
  Walks of the reference's gone-through types: how many, how deep, plain.
-/
import Derived.Test.YtnnppdlhmcobcaaDoorTyR
import Derived.WalkKit
import Derived.WalkSpells
import Derived.WalkLawsBesides
import Derived.RegionTactic
import Derived.IntWalk
import Derived.LoopTactic
import Derived.OwnWalk
import Derived.Lib.Hide
namespace Go.Proofs.YtnnppdlhmcobcaaDoor
open Go.RowKit
open M

/-- A type's box, and what was there ahead of it. -/
def boxed (w : World) (c : Array Value) : World := w.alloc (.cells c 25)
theorem box_cell {w w' : World} {c : Array Value} (hb : Below (boxed w c).heap.size (boxed w c) w') (i : Nat) : w'.cell? ⟨w.heap.size, i, none⟩ = c[i]? := by
  have h : (boxed w c).cell? ⟨w.heap.size, i, none⟩ = c[i]? := cell_of_row _ _ i c _ (0, 0) (heap_alloc_new w _)
  exact (hb.cell (p := ⟨w.heap.size, i, none⟩) (by simp [boxed])).trans h
theorem box_below {w w' : World} {c : Array Value} (hb : Below (boxed w c).heap.size (boxed w c) w') : Below w.heap.size w w' :=
  (below_new (Below.refl _ _) _).trans (hb.mono (by simp [boxed]))
theorem ret_int' {a b : Int} (h : b = a) : Ending.returned (.int .i64 a) = .returned (.int .i64 b) := by rw [h]

theorem manyL_eq (t : Ty) : many t = 1 + manyL t.subs := by cases t; rfl
theorem deep_eq (t : Ty) : deep t = deepL t.subs + 1 := by cases t; rfl
theorem plain_eq (t : Ty) : plainT t = (!(t.kind == 8) && plainL t.subs) := by cases t; rfl
theorem sub_many {t : Ty} {k : Nat} {s : Ty} (h : t.subs[k]? = some s) : many s < many t := by
  have := manyL_mem t.subs s (List.mem_of_getElem? h)
  rw [manyL_eq t]; omega
theorem deepL_append : ∀ (a b : List Ty), deepL (a ++ b) = max (deepL a) (deepL b)
  | [], b => by simp [deepL]
  | t :: r, b => by
    have := deepL_append r b
    simp only [List.cons_append, deepL, this]; omega
theorem deepL_take (l : List Ty) (k : Nat) (t : Ty) (h : l[k]? = some t) : deepL (l.take (k + 1)) = max (deepL (l.take k)) (deep t) := by
  rw [List.take_add_one, h, deepL_append]
  simp [deepL]
mutual
theorem deep_many : ∀ t : Ty, deep t ≤ many t
  | .mk _ _ _ _ _ _ subs => by
    have := deepL_many subs
    unfold deep many; omega
theorem deepL_many : ∀ l : List Ty, deepL l ≤ manyL l
  | [] => by simp [deepL]
  | t :: r => by
    have a := deep_many t
    have b := deepL_many r
    unfold deepL manyL; omega
end
theorem plainL_mem : ∀ (l : List Ty), plainL l = true ↔ ∀ t ∈ l, plainT t = true
  | [] => by simp [plainL]
  | t :: r => by simp [plainL, plainL_mem r]

set_option maxHeartbeats 2000000 in
theorem many_any (N : Nat) : ∀ (t : Ty), many t ≤ N → many t ≤ 9000 → ∀ (v : Value) (w : World), TyV w v t →
    Calls Tryd.prog 13 #[v] w fun e w' => e = .returned (.int .i64 (many t : Nat)) ∧ Below w.heap.size w w' := by
  induction N with
  | zero => intro t h; have := many_pos t; omega
  | succ N ih =>
    intro t hN hM v w hv
    obtain ⟨l, rfl, hT⟩ := hv
    obtain ⟨An, cn, As, cs, rfl, -, -, -, -, hz, -, hS⟩ := hT.parts
    have HS := Lib.hid hS
    have HE := Lib.hid (manyL_eq t)
    have HL := manyL_len t.subs
    have hM' : manyL t.subs ≤ 9000 := by have := HE.out; omega
    clear hT hS
    generalize hn : t.subs.length = n at hz HL
    have HN := Lib.hid hn
    clear hn
    go_enter Tryd.func13, Tryd.ntmps13
    go_wp2_with fail
    go_loopw [3, 4] (fun m i wr => ∃ k : Nat, k ≤ n ∧ i = .int .i64 k ∧ m = .int .i64 ((1 + manyL (t.subs.take k) : Nat) : Int) ∧ Below (boxed w #[.int .i64 t.kind, .string t.pkg, .int .i64 t.major, .string t.mod, .string t.name, .slice An t.names.length cn, .slice As n cs]).heap.size (boxed w #[.int .i64 t.kind, .string t.pkg, .int .i64 t.major, .string t.mod, .string t.name, .slice An t.names.length cn, .slice As n cs]) wr) (fun _ i _ => n - (intOf i).toNat)
    case atStart => exact ⟨0, by omega, rfl, by simp [manyL], Below.refl _ _⟩
    case round =>
      obtain ⟨k, hk, rfl, rfl, hb⟩ := hrel
      obtain ⟨wo, rfl⟩ : ∃ wo : World, wo = wr := ⟨_, rfl⟩
      have b6 := box_cell hb 6
      simp at b6
      have HB := Lib.hid (box_below hb)
      have htk := manyL_take_le t.subs k
      by_cases hlt : k < n
      · obtain ⟨s, hs⟩ : ∃ s, t.subs[k]? = some s := ⟨_, List.getElem?_eq_getElem (by rw [HN.out]; exact hlt)⟩
        obtain ⟨g, o, v0, v1, v2, v3, v4, v5, v6, rfl, -, h0, h1, h2, h3, h4, h5, h6, hs7⟩ := HS.out.below HB.out k s hs
        have hsm := sub_many hs
        have T1 := Lib.hid (manyL_take t.subs k s hs)
        have htk1 := manyL_take_le t.subs (k + 1)
        have IH := Lib.hid (ih s (by omega) (by omega) (.agg #[v0, v1, v2, v3, v4, v5, v6]) wo ⟨_, rfl, hs7⟩)
        have hsz : many s ≤ 9000 := by omega
        clear hs7 hs hsm
        go_wp2_with fail
        refine IH.out.mono ?_; rintro e w2 ⟨rfl, hb2⟩
        have hb3 := below_over hb hb2
        clear b6 h0 h1 h2 h3 h4 h5 h6 hb hb2
        go_wp2_with fail
        go_roundw
        case rel => exact ⟨k + 1, by omega, by go_num, by rw [T1.out]; go_num, hb3⟩
        case measure => simp [intOf]; omega
      · have hkn : k = n := by omega
        have T0 : Hid (many t = 1 + manyL (t.subs.take k)) := Lib.hid (by rw [HE.out, List.take_of_length_le (by rw [HN.out]; omega)])
        go_wp2_with fail
        go_ret
        exact ⟨ret_int' (by rw [T0.out]), HB.out⟩

set_option maxHeartbeats 2000000 in
theorem deep_any (N : Nat) : ∀ (t : Ty), many t ≤ N → many t ≤ 9000 → ∀ (v : Value) (w : World), TyV w v t →
    Calls Tryd.prog 21 #[v] w fun e w' => e = .returned (.int .i64 (deep t : Nat)) ∧ Below w.heap.size w w' := by
  induction N with
  | zero => intro t h; have := many_pos t; omega
  | succ N ih =>
    intro t hN hM v w hv
    obtain ⟨l, rfl, hT⟩ := hv
    obtain ⟨An, cn, As, cs, rfl, -, -, -, hzn, hz, -, hS⟩ := hT.parts
    have HS := Lib.hid hS
    clear hT hS
    generalize hn : t.subs.length = n at hz
    have HN := Lib.hid hn
    clear hn
    have HE := Lib.hid (deep_eq t)
    have hdm : deepL t.subs ≤ 9000 := by have := deep_many t; have := HE.out; omega
    have htk : ∀ k, deepL (t.subs.take k) ≤ deepL t.subs := fun k => by
      conv => rhs; rw [← List.take_append_drop k t.subs, deepL_append]
      omega
    have HK := Lib.hid htk
    clear htk
    go_enter Tryd.func21, Tryd.ntmps21
    go_wp2_with fail
    go_loopw [3, 4] (fun m i wr => ∃ k : Nat, k ≤ n ∧ i = .int .i64 k ∧ m = .int .i64 ((deepL (t.subs.take k) : Nat) : Int) ∧ Below (boxed w #[.int .i64 t.kind, .string t.pkg, .int .i64 t.major, .string t.mod, .string t.name, .slice An t.names.length cn, .slice As n cs]).heap.size (boxed w #[.int .i64 t.kind, .string t.pkg, .int .i64 t.major, .string t.mod, .string t.name, .slice An t.names.length cn, .slice As n cs]) wr) (fun _ i _ => n - (intOf i).toNat)
    case atStart => exact ⟨0, by omega, rfl, by simp [deepL], Below.refl _ _⟩
    case round =>
      obtain ⟨k, hk, rfl, rfl, hb⟩ := hrel
      obtain ⟨wo, rfl⟩ : ∃ wo : World, wo = wr := ⟨_, rfl⟩
      have b6 := box_cell hb 6
      simp at b6
      have HB := Lib.hid (box_below hb)
      have htk := HK.out k
      by_cases hlt : k < n
      · skip
        obtain ⟨s, hs⟩ : ∃ s, t.subs[k]? = some s := ⟨_, List.getElem?_eq_getElem (by rw [HN.out]; exact hlt)⟩
        obtain ⟨g, o, v0, v1, v2, v3, v4, v5, v6, rfl, -, h0, h1, h2, h3, h4, h5, h6, hs7⟩ := HS.out.below HB.out k s hs
        have hsm := sub_many hs
        have T1 := Lib.hid (deepL_take t.subs k s hs)
        have htk1 := HK.out (k + 1)
        have hds := deep_many s
        have hsz : deep s ≤ 9000 := by omega
        have IH := Lib.hid (ih s (by omega) (by omega) (.agg #[v0, v1, v2, v3, v4, v5, v6]) wo ⟨_, rfl, hs7⟩)
        clear hs7 hs hsm hds
        by_cases hgt : deepL (t.subs.take k) < deep s
        · have T2 : Hid (deepL (t.subs.take (k + 1)) = deep s) := Lib.hid (by rw [T1.out]; omega)
          go_wp2_with fail
          refine IH.out.mono ?_; rintro e w2 ⟨rfl, hb2⟩
          have hb3 := below_over hb hb2
          clear b6 h0 h1 h2 h3 h4 h5 h6 hb hb2
          go_wp2_with fail
          go_roundw
          case rel => exact ⟨k + 1, by omega, by go_num, by rw [T2.out], hb3⟩
          case measure => simp [intOf]; omega
        · have T2 : Hid (deepL (t.subs.take (k + 1)) = deepL (t.subs.take k)) := Lib.hid (by rw [T1.out]; omega)
          go_wp2_with fail
          refine IH.out.mono ?_; rintro e w2 ⟨rfl, hb2⟩
          have hb3 := below_over hb hb2
          clear b6 h0 h1 h2 h3 h4 h5 h6 hb hb2
          go_wp2_with fail
          go_roundw
          case rel => exact ⟨k + 1, by omega, by go_num, by rw [T2.out], hb3⟩
          case measure => simp [intOf]; omega
      · have T0 : Hid (deep t = deepL (t.subs.take k) + 1) := Lib.hid (by rw [HE.out, List.take_of_length_le (by rw [HN.out]; omega)])
        go_wp2_with fail
        go_ret
        exact ⟨ret_int' (by rw [T0.out]; go_num), HB.out⟩

set_option maxHeartbeats 2000000 in
theorem plain_any (N : Nat) : ∀ (t : Ty), many t ≤ N → ∀ (v : Value) (w : World), TyV w v t →
    Calls Tryd.prog 14 #[v] w fun e w' => e = .returned (.bool (plainT t)) ∧ Below w.heap.size w w' := by
  induction N with
  | zero => intro t h; have := many_pos t; omega
  | succ N ih =>
    intro t hN v w hv
    obtain ⟨l, rfl, hT⟩ := hv
    obtain ⟨An, cn, As, cs, rfl, -, -, -, hzn, hz, -, hS⟩ := hT.parts
    have HS := Lib.hid hS
    clear hT hS
    generalize hn : t.subs.length = n at hz
    have HN := Lib.hid hn
    clear hn
    have HE := Lib.hid (plain_eq t)
    rcases hid_or (t.kind == 8) with hk8 | hk8
    · have hk8' := hk8.out
      go_enter Tryd.func14, Tryd.ntmps14
      go_wp2_with fail
      go_loopw [3] (fun i wr => ∃ k : Nat, k ≤ n ∧ i = .int .i64 k ∧ Hid (∀ j s, j < k → t.subs[j]? = some s → plainT s = true) ∧ Below (boxed w #[.int .i64 t.kind, .string t.pkg, .int .i64 t.major, .string t.mod, .string t.name, .slice An t.names.length cn, .slice As n cs]).heap.size (boxed w #[.int .i64 t.kind, .string t.pkg, .int .i64 t.major, .string t.mod, .string t.name, .slice An t.names.length cn, .slice As n cs]) wr) (fun i _ => n - (intOf i).toNat)
      case atStart => exact ⟨0, by omega, rfl, Lib.hid (fun j s h => by omega), Below.refl _ _⟩
      case round =>
        obtain ⟨k, hk, rfl, HP, hb⟩ := hrel
        obtain ⟨wo, rfl⟩ : ∃ wo : World, wo = wr := ⟨_, rfl⟩
        have b6 := box_cell hb 6
        simp at b6
        have HB := Lib.hid (box_below hb)
        by_cases hlt : k < n
        · obtain ⟨s, hs⟩ : ∃ s, t.subs[k]? = some s := ⟨_, List.getElem?_eq_getElem (by rw [HN.out]; exact hlt)⟩
          obtain ⟨g, o, v0, v1, v2, v3, v4, v5, v6, rfl, -, h0, h1, h2, h3, h4, h5, h6, hs7⟩ := HS.out.below HB.out k s hs
          have hsm := sub_many hs
          have IH := Lib.hid (ih s (by omega) (.agg #[v0, v1, v2, v3, v4, v5, v6]) wo ⟨_, rfl, hs7⟩)
          have HSS := Lib.hid hs
          clear hs7 hs hsm
          rcases hid_or (plainT s) with hp | hp
          · have R : Hid (plainT t = false) := Lib.hid (by
              rw [HE.out, Bool.and_eq_false_iff]; right
              rw [Bool.eq_false_iff, ne_eq, plainL_mem]
              intro h
              have := h s (List.mem_of_getElem? HSS.out)
              rw [hp.out] at this; cases this)
            go_wp2_with fail
            refine IH.out.mono ?_; rintro e w2 ⟨rfl, hb2⟩; rw [hp.out]
            have hb3 := below_over hb hb2
            clear b6 h0 h1 h2 h3 h4 h5 h6 hb hb2
            go_wp2_with fail
            go_ret
            exact ⟨ret_bool R.out, box_below hb3⟩
          · go_wp2_with fail
            refine IH.out.mono ?_; rintro e w2 ⟨rfl, hb2⟩; rw [hp.out]
            have hb3 := below_over hb hb2
            clear b6 h0 h1 h2 h3 h4 h5 h6 hb hb2
            go_wp2_with fail
            go_roundw
            case rel => exact ⟨k + 1, by omega, by go_num, Lib.hid (fun j q hj hq => by
              rcases Nat.lt_or_ge j k with a | a
              · exact HP.out j q a hq
              · rw [show j = k by omega, HSS.out] at hq
                obtain rfl := Option.some.inj hq
                exact hp.out), hb3⟩
            case measure => simp [intOf]; omega
        · have R : Hid (plainT t = true) := Lib.hid (by
            rw [HE.out, hk8.out, (plainL_mem t.subs).2 (fun s hs => ?_)]
            · rfl
            · obtain ⟨j, hj⟩ := List.getElem?_of_mem hs
              have hjl := (List.getElem?_eq_some_iff.1 hj).1
              exact HP.out j s (by rw [HN.out] at hjl; omega) hj)
          go_wp2_with fail
          go_ret
          exact ⟨ret_bool R.out, HB.out⟩
    · have hk8' := hk8.out
      have R : Hid (plainT t = false) := Lib.hid (by rw [HE.out, hk8.out]; rfl)
      rw [R.out]
      go_enter Tryd.func14, Tryd.ntmps14
      go_wp2_with fail
      go_ret
      exact ⟨rfl, below_new (Below.refl _ _) _⟩

theorem few_eq (t : Ty) (most : Int) : fewT t most = if most - 1 < 0 ∨ 200 < t.names.length then -1 else fewL t.subs (most - 1) := by cases t; rfl
/-- What stands behind k of them: the rest may still be asked. -/
theorem fewL_take : ∀ (l : List Ty) (k : Nat) (most : Int), fewL l most = fewL (l.drop k) (fewL (l.take k) most)
  | [], k, most => by simp [fewL]
  | t :: r, 0, most => rfl
  | t :: r, k + 1, most => by
    show (if 0 ≤ most then fewL r (fewT t most) else most) = fewL (r.drop k) (if 0 ≤ most then fewL (r.take k) (fewT t most) else most)
    split
    · exact fewL_take r k _
    · rw [fewL_neg _ _ (by omega)]
theorem fewL_snoc (l : List Ty) (k : Nat) (t : Ty) (most : Int) (h : l[k]? = some t) (h0 : 0 ≤ fewL (l.take k) most) : fewL (l.take (k + 1)) most = fewT t (fewL (l.take k) most) := by
  have hk := (List.getElem?_eq_some_iff.1 h).1
  have e := fewL_take (l.take (k + 1)) k most
  rw [List.take_take, Nat.min_eq_left (by omega)] at e
  have d : (l.take (k + 1)).drop k = [t] := by
    rw [List.take_add_one, h, List.drop_append_of_le_length (by simp; omega), List.drop_eq_nil_of_le (List.length_take_le _ _)]
    rfl
  rw [e, d]
  show (if 0 ≤ _ then fewL [] _ else _) = _
  rw [if_pos h0]; rfl

set_option maxHeartbeats 2000000 in
theorem few_any (N : Nat) : ∀ (t : Ty), many t ≤ N → ∀ (most : Int), -1 ≤ most → most ≤ 3000 → ∀ (v : Value) (w : World), TyV w v t →
    Calls Tryd.prog 19 #[v, .int .i64 most] w fun e w' => e = .returned (.int .i64 (fewT t most)) ∧ Below w.heap.size w w' := by
  induction N with
  | zero => intro t h; have := many_pos t; omega
  | succ N ih =>
    intro t hN most hlo hhi v w hv
    obtain ⟨l, rfl, hT⟩ := hv
    obtain ⟨An, cn, As, cs, rfl, -, -, -, hzn, hz, -, hS⟩ := hT.parts
    have HS := Lib.hid hS
    clear hT hS
    generalize hn : t.subs.length = n at hz
    have HN := Lib.hid hn
    clear hn
    have HE := Lib.hid (few_eq t most)
    by_cases hm : most - 1 < 0
    · have R : Hid (fewT t most = -1) := Lib.hid (by rw [HE.out, if_pos (.inl hm)])
      rw [R.out]
      go_enter Tryd.func19, Tryd.ntmps19
      go_wp2_with fail
      go_ret
      exact ⟨rfl, below_new (Below.refl _ _) _⟩
    generalize hq : t.names.length = q at hzn HE
    by_cases hl : 200 < q
    · have R : Hid (fewT t most = -1) := Lib.hid (by rw [HE.out, if_pos (.inr hl)])
      have hl' : (200 : Int) < q := by omega
      rw [R.out]
      clear hq
      go_enter Tryd.func19, Tryd.ntmps19
      go_wp2_with fail
      go_ret
      exact ⟨rfl, below_new (Below.refl _ _) _⟩
    have HR : Hid (fewT t most = fewL t.subs (most - 1)) := Lib.hid (by rw [HE.out, if_neg (by omega)])
    have hl' : ¬ (200 : Int) < q := by omega
    clear HE hq
    go_enter Tryd.func19, Tryd.ntmps19
    go_wp2_with fail
    go_loopw [1, 5] (fun m i wr => ∃ k : Nat, k ≤ n ∧ i = .int .i64 k ∧ m = .int .i64 (fewL (t.subs.take k) (most - 1)) ∧ Below (boxed w #[.int .i64 t.kind, .string t.pkg, .int .i64 t.major, .string t.mod, .string t.name, .slice An q cn, .slice As n cs]).heap.size (boxed w #[.int .i64 t.kind, .string t.pkg, .int .i64 t.major, .string t.mod, .string t.name, .slice An q cn, .slice As n cs]) wr) (fun _ i _ => n - (intOf i).toNat)
    case atStart => exact ⟨0, by omega, rfl, by simp [fewL], Below.refl _ _⟩
    case round =>
      obtain ⟨k, hk, rfl, rfl, hb⟩ := hrel
      obtain ⟨wo, rfl⟩ : ∃ wo : World, wo = wr := ⟨_, rfl⟩
      have b6 := box_cell hb 6
      simp at b6
      have HB := Lib.hid (box_below hb)
      have bd := fewL_bd (t.subs.take k) (most - 1) (by omega)
      by_cases hlt : k < n
      · by_cases h0 : 0 ≤ fewL (t.subs.take k) (most - 1)
        · obtain ⟨s, hs⟩ : ∃ s, t.subs[k]? = some s := ⟨_, List.getElem?_eq_getElem (by rw [HN.out]; exact hlt)⟩
          obtain ⟨g, o, v0, v1, v2, v3, v4, v5, v6, rfl, -, h0', h1, h2, h3, h4, h5, h6, hs7⟩ := HS.out.below HB.out k s hs
          have hsm := sub_many hs
          have T1 := Lib.hid (fewL_snoc t.subs k s (most - 1) hs h0)
          have IH := Lib.hid (ih s (by omega) (fewL (t.subs.take k) (most - 1)) (by omega) (by omega) (.agg #[v0, v1, v2, v3, v4, v5, v6]) wo ⟨_, rfl, hs7⟩)
          clear hs7 hs hsm
          generalize fewL (t.subs.take k) (most - 1) = z at h0 IH T1 bd
          go_wp2_with fail
          refine IH.out.mono ?_; rintro e w2 ⟨rfl, hb2⟩
          have hb3 := below_over hb hb2
          clear b6 h0' h1 h2 h3 h4 h5 h6 hb hb2
          go_wp2_with fail
          go_roundw
          case rel => exact ⟨k + 1, by omega, by go_num, by rw [T1.out], hb3⟩
          case measure => simp [intOf]; omega
        · have T0 : Hid (fewT t most = fewL (t.subs.take k) (most - 1)) := Lib.hid (by rw [HR.out, fewL_take t.subs k, fewL_neg _ _ (by omega)])
          generalize fewL (t.subs.take k) (most - 1) = z at h0 T0 bd
          go_wp2_with fail
          go_ret
          exact ⟨ret_int' T0.out, HB.out⟩
      · have T0 : Hid (fewT t most = fewL (t.subs.take k) (most - 1)) := Lib.hid (by rw [HR.out, List.take_of_length_le (by rw [HN.out]; omega)])
        generalize fewL (t.subs.take k) (most - 1) = z at T0 bd
        go_wp2_with fail
        go_ret
        exact ⟨ret_int' T0.out, HB.out⟩

end Go.Proofs.YtnnppdlhmcobcaaDoor
