/-
  Walks of the reference's all and May: may a type be?
-/
import Derived.Test.YtnnppdlhmcobcaaDoorTyO
namespace Go.Proofs.YtnnppdlhmcobcaaDoor
open Go.RowKit
open M

set_option maxHeartbeats 2000000 in
theorem all_any (N : Nat) : ∀ (t : Ty), many t ≤ N → ∀ (v : Value) (w : World), TyV w v t →
    Calls Tryd.prog 20 #[v] w fun e w' => e = .returned (.bool (allOk t)) ∧ Below w.heap.size w w' := by
  induction N with
  | zero => intro t h; have := many_pos t; omega
  | succ N ih =>
    intro t hN v w hv
    have HV := Lib.hid hv
    obtain ⟨l, rfl, hT⟩ := hv
    obtain ⟨An, cn, As, cs, rfl, -, -, -, hzn, hz, -, hS⟩ := hT.parts
    have HS := Lib.hid hS
    clear hT hS
    have HE := Lib.hid (allOk_eq t)
    generalize hn : t.subs.length = n at hz HV
    have HN := Lib.hid hn
    clear hn
    go_enter Tryd.func20, Tryd.ntmps20
    go_wp2_with fail
    refine (own_any t _ _ (HV.out.below (below_new (Below.refl _ _) _))).mono ?_; rintro e w1 ⟨rfl, hb1⟩
    have hb1' : Below (boxed w #[.int .i64 t.kind, .string t.pkg, .int .i64 t.major, .string t.mod, .string t.name, .slice An t.names.length cn, .slice As n cs]).heap.size (boxed w #[.int .i64 t.kind, .string t.pkg, .int .i64 t.major, .string t.mod, .string t.name, .slice An t.names.length cn, .slice As n cs]) w1 := hb1
    rcases hid_or (ownOk t) with ho | ho
    · have R : Hid (allOk t = false) := Lib.hid (by rw [HE.out, ho.out]; rfl)
      have HB1 := Lib.hid (box_below hb1')
      rw [ho.out]
      clear hb1 hb1'
      go_wp2_with fail
      go_loopw [3, 4] (fun b i wr => b = .bool false ∧ i = .int .i64 0 ∧ w1 = wr) (fun _ _ _ => 0)
      case atStart => exact ⟨rfl, rfl, rfl⟩
      case round =>
        obtain ⟨rfl, rfl, rfl⟩ := hrel
        go_wp2_with fail
        go_ret
        exact ⟨ret_bool R.out, HB1.out⟩
    · rw [ho.out]
      clear hb1
      go_wp2_with fail
      go_loopw [3, 4] (fun b i wr => ∃ (k : Nat) (c : Bool), k ≤ n ∧ i = .int .i64 k ∧ b = .bool c ∧ Hid (c = true → ∀ j s, j < k → t.subs[j]? = some s → allOk s = true) ∧ Hid (c = false → allOk t = false) ∧ Below (boxed w #[.int .i64 t.kind, .string t.pkg, .int .i64 t.major, .string t.mod, .string t.name, .slice An t.names.length cn, .slice As n cs]).heap.size (boxed w #[.int .i64 t.kind, .string t.pkg, .int .i64 t.major, .string t.mod, .string t.name, .slice An t.names.length cn, .slice As n cs]) wr) (fun _ i _ => n - (intOf i).toNat)
      case atStart => exact ⟨0, true, by omega, rfl, rfl, Lib.hid (fun _ j s h => by omega), Lib.hid (fun h => by cases h), hb1'⟩
      case round =>
        obtain ⟨k, c, hk, rfl, rfl, HC, HF, hb⟩ := hrel
        obtain ⟨wo, rfl⟩ : ∃ wo : World, wo = wr := ⟨_, rfl⟩
        have b6 := box_cell hb 6
        simp at b6
        have HB := Lib.hid (box_below hb)
        rcases hid_or c with hc | hc
        · obtain rfl := hc.out
          have R : Hid (allOk t = false) := Lib.hid (HF.out (by trivial))
          go_wp2_with fail
          go_ret
          exact ⟨ret_bool R.out, HB.out⟩
        · obtain rfl := hc.out
          by_cases hlt : k < n
          · obtain ⟨s, hs⟩ : ∃ s, t.subs[k]? = some s := ⟨_, List.getElem?_eq_getElem (by rw [HN.out]; exact hlt)⟩
            obtain ⟨g, o, v0, v1, v2, v3, v4, v5, v6, rfl, -, h0, h1, h2, h3, h4, h5, h6, hs7⟩ := HS.out.below HB.out k s hs
            have hsm := sub_many hs
            have IH := Lib.hid (ih s (by omega) (.agg #[v0, v1, v2, v3, v4, v5, v6]) wo ⟨_, rfl, hs7⟩)
            have HSS := Lib.hid hs
            clear hs7 hs hsm
            go_wp2_with fail
            refine IH.out.mono ?_; rintro e w2 ⟨rfl, hb2⟩
            have hb3 := below_over hb hb2
            clear b6 h0 h1 h2 h3 h4 h5 h6 hb hb2
            go_wp2_with fail
            go_roundw
            case rel => exact ⟨k + 1, allOk s, by omega, by go_num, rfl, Lib.hid (fun hc j q hj hq => by
              rcases Nat.lt_or_ge j k with a | a
              · exact HC.out (by trivial) j q a hq
              · rw [show j = k by omega, HSS.out] at hq
                obtain rfl := Option.some.inj hq
                exact hc), Lib.hid (fun hc => by
              rw [HE.out, Bool.and_eq_false_iff]; right
              rw [Bool.eq_false_iff, ne_eq, allOkL_mem]
              intro h
              have := h s (List.mem_of_getElem? HSS.out)
              rw [hc] at this; cases this), hb3⟩
            case measure => simp [intOf]; omega
          · have R : Hid (allOk t = true) := Lib.hid (by
              rw [HE.out, ho.out, (allOkL_mem t.subs).2 (fun s hs => ?_)]
              · rfl
              · obtain ⟨j, hj⟩ := List.getElem?_of_mem hs
                have hjl := (List.getElem?_eq_some_iff.1 hj).1
                exact HC.out (by trivial) j s (by rw [HN.out] at hjl; omega) hj)
            go_wp2_with fail
            go_ret
            exact ⟨ret_bool R.out, HB.out⟩

set_option maxHeartbeats 1000000 in
theorem may_any (t : Ty) (v : Value) (w : World) (hM : many t ≤ 9000) (hv : TyV w v t) :
    Calls Tryd.prog 8 #[v] w fun e w' => e = .returned (.bool (mayT t)) ∧ Below w.heap.size w w' := by
  have HV := Lib.hid hv
  obtain ⟨l, rfl, hT⟩ := hv
  obtain ⟨An, cn, As, cs, rfl, -, -, -, -, -, -, -⟩ := hT.parts
  clear hT
  have hD := deep_many t
  unfold mayT
  go_enter Tryd.func8, Tryd.ntmps8
  go_wp2_with fail
  refine (all_any _ t (Nat.le_refl _) _ _ (HV.out.below (below_new (Below.refl _ _) _))).mono ?_; rintro e w1 ⟨rfl, hb1⟩
  have hb1' : Below (boxed w #[.int .i64 t.kind, .string t.pkg, .int .i64 t.major, .string t.mod, .string t.name, .slice An t.names.length cn, .slice As t.subs.length cs]).heap.size (boxed w #[.int .i64 t.kind, .string t.pkg, .int .i64 t.major, .string t.mod, .string t.name, .slice An t.names.length cn, .slice As t.subs.length cs]) w1 := hb1
  clear hb1
  have V1 := Lib.hid (HV.out.below (box_below hb1'))
  have c0 := box_cell hb1' 0; have c1 := box_cell hb1' 1; have c2 := box_cell hb1' 2; have c3 := box_cell hb1' 3; have c4 := box_cell hb1' 4; have c5 := box_cell hb1' 5; have c6 := box_cell hb1' 6
  simp at c0 c1 c2 c3 c4 c5 c6
  rcases hid_or (allOk t) with ha | ha
  · have R : Hid ((allOk t && decide (many t ≤ 500) && decide (deep t ≤ 32)) = false) := Lib.hid (by rw [ha.out]; rfl)
    rw [ha.out]
    go_wp2_with fail
    go_ret
    exact ⟨ret_bool R.out, box_below hb1'⟩
  · rw [ha.out]
    have HB1 := Lib.hid (box_below hb1')
    go_wp2_with fail
    refine (many_any _ t (Nat.le_refl _) hM _ _ V1.out).mono ?_; rintro e w2 ⟨rfl, hb2⟩
    have hb3 := below_over hb1' hb2
    clear hb1' hb2 c0 c1 c2 c3 c4 c5 c6
    have V2 := Lib.hid (HV.out.below (box_below hb3))
    have c0 := box_cell hb3 0; have c1 := box_cell hb3 1; have c2 := box_cell hb3 2; have c3 := box_cell hb3 3; have c4 := box_cell hb3 4; have c5 := box_cell hb3 5; have c6 := box_cell hb3 6
    simp at c0 c1 c2 c3 c4 c5 c6
    by_cases h5 : many t ≤ 500
    · have R : Hid ((allOk t && decide (many t ≤ 500) && decide (deep t ≤ 32)) = decide (deep t ≤ 32)) := Lib.hid (by rw [ha.out, show decide (many t ≤ 500) = true by simpa using h5]; rfl)
      go_wp2_with fail
      refine (deep_any _ t (Nat.le_refl _) hM _ _ V2.out).mono ?_; rintro e w4 ⟨rfl, hb4⟩
      have HB4 := Lib.hid (box_below (below_over hb3 hb4))
      clear c0 c1 c2 c3 c4 c5 c6 hb3 hb4
      by_cases hd : deep t ≤ 32
      · go_wp2_with fail
        go_ret
        exact ⟨ret_bool (by rw [R.out, Bool.eq_iff_iff]; simp <;> omega), HB4.out⟩
      · go_wp2_with fail
        go_ret
        exact ⟨ret_bool (by rw [R.out, Bool.eq_iff_iff]; simp <;> omega), HB4.out⟩
    · have R : Hid ((allOk t && decide (many t ≤ 500) && decide (deep t ≤ 32)) = false) := Lib.hid (by rw [ha.out, show decide (many t ≤ 500) = false by simpa using h5]; rfl)
      have HB3 := Lib.hid (box_below hb3)
      go_wp2_with fail
      go_ret
      first | exact ⟨ret_bool R.out, HB3.out⟩ | exact ⟨rfl, HB3.out⟩

end Go.Proofs.YtnnppdlhmcobcaaDoor
