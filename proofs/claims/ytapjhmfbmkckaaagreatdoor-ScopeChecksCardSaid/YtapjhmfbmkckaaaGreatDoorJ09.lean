/-
  Several texts in one: Walks of the reference's all and May: may a type be? · The reference's May of modules: imports, declarations. · errors.As and errors.Is at an error that is a *Spot whose Err is a Code: the library's own text walked, over the model's entries for internal/reflectlite; and the law's own question, whether an error is a Spot at that place with that Code. · errors.Is at an error that is a *Spot whose Err is a Code, held against that Code: the library's own text walked. · The law's own question: an error that is a *Spot at a place with a Code is one. · The walk of ExprParses: whatever text is handed in. · The reference's May of modules: a declaration. · The reference's May of modules. · A number's decimal digits, and the walk of the reference's Digits. · Plain mathematics for layer 4: the texts of types. · Plain mathematics for layer 4: types that may be, and are unlike, have unlike texts.
-/
import Derived.Test.YtapjhmfbmkckaaaGreatDoorJ08
import Derived.Test.YtapjhmfbmkckaaaGreatDoorJ06
import Derived.Test.YtapjhmfbmkckaaaGreatDoorChecked
import Derived.Test.YtapjhmfbmkckaaaGreatDoorJ00
import Derived.WalkKit
import Derived.LaidEql
import Derived.Stop.Asserts
import Derived.RowKitTokens
import Derived.Lib.IfaceEq
import Derived.WalkSpells
import Derived.Laws.Pointers
import Derived.Lib.AppendIntMem
import Derived.Lib.ItoaLen
import Derived.Lib.IndexBytes
import Derived.Deep.RegionHeld3
import Derived.Deep.RegionWith
import Derived.IntWalk
import Derived.Laws.BitsLemmas
import Derived.Test.YtapjhmfbmkckaaaGreatDoorJ07
/- Walks of the reference's all and May: may a type be? -/
namespace Go.Proofs.YtapjhmfbmkckaaaGreatDoor
open Go.RowKit
open M

set_option maxHeartbeats 2000000 in
theorem all_any (N : Nat) : ∀ (t : Ty), many t ≤ N → ∀ (v : Value) (w : World), TyV w v t →
    Calls Tryz.prog 55 #[v] w fun e w' => e = .returned (.bool (allOk t)) ∧ Below w.heap.size w w' := by
  induction N with
  | zero => intro t h; have := many_pos t; omega
  | succ N ih =>
    intro t hN v w hv
    have HV := Lib.hid hv
    obtain ⟨l, rfl, hT⟩ := hv
    obtain ⟨An, cn, As, cs, rfl, -, -, -, hzn, hz, -, hS⟩ := hT.parts
    have HS := Lib.hid hS
    clear hT hS
    have HE := Lib.hid (allOk_eq t)
    generalize hn : t.subs.length = n at hz HV
    have HN := Lib.hid hn
    clear hn
    go_enter Tryz.func55, Tryz.ntmps55
    go_wp2_with fail
    refine (own_any t _ _ (HV.out.below (below_new (Below.refl _ _) _))).mono ?_; rintro e w1 ⟨rfl, hb1⟩
    have hb1' : Below (boxed w #[.int .i64 t.kind, .string t.pkg, .int .i64 t.major, .string t.mod, .string t.name, .slice An t.names.length cn, .slice As n cs]).heap.size (boxed w #[.int .i64 t.kind, .string t.pkg, .int .i64 t.major, .string t.mod, .string t.name, .slice An t.names.length cn, .slice As n cs]) w1 := hb1
    rcases hid_or (ownOk t) with ho | ho
    · have R : Hid (allOk t = false) := Lib.hid (by rw [HE.out, ho.out]; rfl)
      have HB1 := Lib.hid (box_below hb1')
      rw [ho.out]
      clear hb1 hb1'
      go_wp2_with fail
      go_loopw [3, 4] (fun b i wr => b = .bool false ∧ i = .int .i64 0 ∧ w1 = wr) (fun _ _ _ => 0)
      case atStart => exact ⟨rfl, rfl, rfl⟩
      case round =>
        obtain ⟨rfl, rfl, rfl⟩ := hrel
        go_wp2_with fail
        go_ret
        exact ⟨ret_bool R.out, HB1.out⟩
    · rw [ho.out]
      clear hb1
      go_wp2_with fail
      go_loopw [3, 4] (fun b i wr => ∃ (k : Nat) (c : Bool), k ≤ n ∧ i = .int .i64 k ∧ b = .bool c ∧ Hid (c = true → ∀ j s, j < k → t.subs[j]? = some s → allOk s = true) ∧ Hid (c = false → allOk t = false) ∧ Below (boxed w #[.int .i64 t.kind, .string t.pkg, .int .i64 t.major, .string t.mod, .string t.name, .slice An t.names.length cn, .slice As n cs]).heap.size (boxed w #[.int .i64 t.kind, .string t.pkg, .int .i64 t.major, .string t.mod, .string t.name, .slice An t.names.length cn, .slice As n cs]) wr) (fun _ i _ => n - (intOf i).toNat)
      case atStart => exact ⟨0, true, by omega, rfl, rfl, Lib.hid (fun _ j s h => by omega), Lib.hid (fun h => by cases h), hb1'⟩
      case round =>
        obtain ⟨k, c, hk, rfl, rfl, HC, HF, hb⟩ := hrel
        obtain ⟨wo, rfl⟩ : ∃ wo : World, wo = wr := ⟨_, rfl⟩
        have b6 := box_cell hb 6
        simp at b6
        have HB := Lib.hid (box_below hb)
        rcases hid_or c with hc | hc
        · obtain rfl := hc.out
          have R : Hid (allOk t = false) := Lib.hid (HF.out (by trivial))
          go_wp2_with fail
          go_ret
          exact ⟨ret_bool R.out, HB.out⟩
        · obtain rfl := hc.out
          by_cases hlt : k < n
          · obtain ⟨s, hs⟩ : ∃ s, t.subs[k]? = some s := ⟨_, List.getElem?_eq_getElem (by rw [HN.out]; exact hlt)⟩
            obtain ⟨g, o, v0, v1, v2, v3, v4, v5, v6, rfl, -, h0, h1, h2, h3, h4, h5, h6, hs7⟩ := HS.out.below HB.out k s hs
            have hsm := sub_many hs
            have IH := Lib.hid (ih s (by omega) (.agg #[v0, v1, v2, v3, v4, v5, v6]) wo ⟨_, rfl, hs7⟩)
            have HSS := Lib.hid hs
            clear hs7 hs hsm
            go_wp2_with fail
            refine IH.out.mono ?_; rintro e w2 ⟨rfl, hb2⟩
            have hb3 := below_over hb hb2
            clear b6 h0 h1 h2 h3 h4 h5 h6 hb hb2
            go_wp2_with fail
            go_roundw
            case rel => exact ⟨k + 1, allOk s, by omega, by go_num, rfl, Lib.hid (fun hc j q hj hq => by
              rcases Nat.lt_or_ge j k with a | a
              · exact HC.out (by trivial) j q a hq
              · rw [show j = k by omega, HSS.out] at hq
                obtain rfl := Option.some.inj hq
                exact hc), Lib.hid (fun hc => by
              rw [HE.out, Bool.and_eq_false_iff]; right
              rw [Bool.eq_false_iff, ne_eq, allOkL_mem]
              intro h
              have := h s (List.mem_of_getElem? HSS.out)
              rw [hc] at this; cases this), hb3⟩
            case measure => simp [intOf]; omega
          · have R : Hid (allOk t = true) := Lib.hid (by
              rw [HE.out, ho.out, (allOkL_mem t.subs).2 (fun s hs => ?_)]
              · rfl
              · obtain ⟨j, hj⟩ := List.getElem?_of_mem hs
                have hjl := (List.getElem?_eq_some_iff.1 hj).1
                exact HC.out (by trivial) j s (by rw [HN.out] at hjl; omega) hj)
            go_wp2_with fail
            go_ret
            exact ⟨ret_bool R.out, HB.out⟩

set_option maxHeartbeats 1000000 in
theorem may_any (t : Ty) (v : Value) (w : World) (hM : many t ≤ 9000) (hv : TyV w v t) :
    Calls Tryz.prog 17 #[v] w fun e w' => e = .returned (.bool (mayT t)) ∧ Below w.heap.size w w' := by
  have HV := Lib.hid hv
  obtain ⟨l, rfl, hT⟩ := hv
  obtain ⟨An, cn, As, cs, rfl, -, -, -, -, -, -, -⟩ := hT.parts
  clear hT
  have hD := deep_many t
  unfold mayT
  go_enter Tryz.func17, Tryz.ntmps17
  go_wp2_with fail
  refine (all_any _ t (Nat.le_refl _) _ _ (HV.out.below (below_new (Below.refl _ _) _))).mono ?_; rintro e w1 ⟨rfl, hb1⟩
  have hb1' : Below (boxed w #[.int .i64 t.kind, .string t.pkg, .int .i64 t.major, .string t.mod, .string t.name, .slice An t.names.length cn, .slice As t.subs.length cs]).heap.size (boxed w #[.int .i64 t.kind, .string t.pkg, .int .i64 t.major, .string t.mod, .string t.name, .slice An t.names.length cn, .slice As t.subs.length cs]) w1 := hb1
  clear hb1
  have V1 := Lib.hid (HV.out.below (box_below hb1'))
  have c0 := box_cell hb1' 0; have c1 := box_cell hb1' 1; have c2 := box_cell hb1' 2; have c3 := box_cell hb1' 3; have c4 := box_cell hb1' 4; have c5 := box_cell hb1' 5; have c6 := box_cell hb1' 6
  simp at c0 c1 c2 c3 c4 c5 c6
  rcases hid_or (allOk t) with ha | ha
  · have R : Hid ((allOk t && decide (many t ≤ 500) && decide (deep t ≤ 32)) = false) := Lib.hid (by rw [ha.out]; rfl)
    rw [ha.out]
    go_wp2_with fail
    go_ret
    exact ⟨ret_bool R.out, box_below hb1'⟩
  · rw [ha.out]
    have HB1 := Lib.hid (box_below hb1')
    go_wp2_with fail
    refine (many_any _ t (Nat.le_refl _) hM _ _ V1.out).mono ?_; rintro e w2 ⟨rfl, hb2⟩
    have hb3 := below_over hb1' hb2
    clear hb1' hb2 c0 c1 c2 c3 c4 c5 c6
    have V2 := Lib.hid (HV.out.below (box_below hb3))
    have c0 := box_cell hb3 0; have c1 := box_cell hb3 1; have c2 := box_cell hb3 2; have c3 := box_cell hb3 3; have c4 := box_cell hb3 4; have c5 := box_cell hb3 5; have c6 := box_cell hb3 6
    simp at c0 c1 c2 c3 c4 c5 c6
    by_cases h5 : many t ≤ 500
    · have R : Hid ((allOk t && decide (many t ≤ 500) && decide (deep t ≤ 32)) = decide (deep t ≤ 32)) := Lib.hid (by rw [ha.out, show decide (many t ≤ 500) = true by simpa using h5]; rfl)
      go_wp2_with fail
      refine (deep_any _ t (Nat.le_refl _) hM _ _ V2.out).mono ?_; rintro e w4 ⟨rfl, hb4⟩
      have HB4 := Lib.hid (box_below (below_over hb3 hb4))
      clear c0 c1 c2 c3 c4 c5 c6 hb3 hb4
      by_cases hd : deep t ≤ 32
      · go_wp2_with fail
        go_ret
        exact ⟨ret_bool (by rw [R.out, Bool.eq_iff_iff]; simp <;> omega), HB4.out⟩
      · go_wp2_with fail
        go_ret
        exact ⟨ret_bool (by rw [R.out, Bool.eq_iff_iff]; simp <;> omega), HB4.out⟩
    · have R : Hid ((allOk t && decide (many t ≤ 500) && decide (deep t ≤ 32)) = false) := Lib.hid (by rw [ha.out, show decide (many t ≤ 500) = false by simpa using h5]; rfl)
      have HB3 := Lib.hid (box_below hb3)
      go_wp2_with fail
      go_ret
      first | exact ⟨ret_bool R.out, HB3.out⟩ | exact ⟨rfl, HB3.out⟩

end Go.Proofs.YtapjhmfbmkckaaaGreatDoor

/- The reference's May of modules: imports, declarations. -/
namespace Go.Proofs.YtapjhmfbmkckaaaGreatDoor
open Go.RowKit
open Go.Sort
open M

def mayI (x : Im) : Bool := smallB x.pkg.data.toList && (smallB x.mod.data.toList && (smallB x.asn.data.toList && (decide (1 ≤ x.major) && decide (x.major ≤ 999999999))))
def mayD (d : De) : Bool :=
  if d.kind = 1 ∨ d.kind = 2 then greatB d.name.data.toList && sameT d.typ noT
  else if d.kind = 3 then greatB d.name.data.toList && mayT d.typ
  else if d.kind = 4 then smallB d.name.data.toList && mayT d.typ
  else false

set_option maxRecDepth 100000 in
set_option maxHeartbeats 4000000 in
theorem rimport0_any (x : Im) (w : World) (z0 : x.pkg.size ≤ 9223372036854775807) (z1 : x.mod.size ≤ 9223372036854775807) (z2 : x.asn.size ≤ 9223372036854775807) :
    Calls Tryz.prog 53 #[.agg #[.string x.pkg, .int .i64 x.major, .string x.mod, .string x.asn]] w fun e w' => e = .returned (.bool (mayI x)) ∧ Below w.heap.size w w' := by
  obtain ⟨w0, hw0⟩ : ∃ w0, w0 = w.alloc (.cells #[.string x.pkg, .int .i64 x.major, .string x.mod, .string x.asn] 55) := ⟨_, rfl⟩
  have B0 : Below w.heap.size w w0 := by rw [hw0]; exact below_new (Below.refl _ _) _
  have O0 : w0.heap[w.heap.size]? = some (.cells #[.string x.pkg, .int .i64 x.major, .string x.mod, .string x.asn] 55 (0, 0)) := by rw [hw0]; exact heap_alloc_new w _
  have hl0 : w.heap.size < w0.heap.size := by rw [hw0]; simp
  have HV : Hid (mayI x = (smallB x.pkg.data.toList && (smallB x.mod.data.toList && (smallB x.asn.data.toList && (decide (1 ≤ x.major) && decide (x.major ≤ 999999999)))))) := Lib.hid rfl
  have S0 := Lib.hid (fun w => refSmall_any x.pkg w z0)
  have S1 := Lib.hid (fun w => refSmall_any x.mod w z1)
  have S2 := Lib.hid (fun w => refSmall_any x.asn w z2)
  rw [HV.out]
  generalize smallB x.pkg.data.toList = b0 at S0
  generalize smallB x.mod.data.toList = b1 at S1
  generalize smallB x.asn.data.toList = b2 at S2
  have x0 := Lib.cell_of_heap O0 0
  simp at x0
  have HO := Lib.hid O0
  have HB := Lib.hid B0
  have HW0 := Lib.hid hw0
  clear hw0 B0 O0 HV z0 z1 z2
  go_enter Tryz.func53, Tryz.ntmps53
  go_upto_region 1 with fail
  rw [← HW0.out]
  clear HW0
  go_wp2_with fail
  refine (S0.out _).mono ?_; rintro e w1 ⟨rfl, hb1⟩
  have O1 := (hb1.block _ hl0).trans HO.out
  have x2 := Lib.cell_of_heap O1 2
  simp at x2
  clear x0
  go_wp2_with fail
  refine (S1.out _).mono ?_; rintro e w2 ⟨rfl, hb2⟩
  have hl1 := Nat.lt_of_lt_of_le hl0 hb1.size
  have O2 := (hb2.block _ hl1).trans O1
  have x3 := Lib.cell_of_heap O2 3
  simp at x3
  clear x2
  go_wp2_with fail
  refine (S2.out _).mono ?_; rintro e w3 ⟨rfl, hb3⟩
  have O3 := (hb3.block _ (Nat.lt_of_lt_of_le hl1 hb2.size)).trans O2
  have x1 := Lib.cell_of_heap O3 1
  simp at x1
  have FIN := Lib.hid (below_over (below_over (below_over HB.out hb1) hb2) hb3)
  clear hb1 hb2 hb3 O1 O2 O3 x3 HO HB S0 S1 S2 hl0 hl1
  have d1 : decide (1 ≤ x.major) = true ∨ decide (1 ≤ x.major) = false := by cases decide (1 ≤ x.major) <;> simp
  have d2 : decide (x.major ≤ 999999999) = true ∨ decide (x.major ≤ 999999999) = false := by cases decide (x.major ≤ 999999999) <;> simp
  rcases d1 with d1 | d1 <;> rcases d2 with d2 | d2 <;> cases b0 <;> cases b1 <;> cases b2
  all_goals (go_wp2_with fail; go_ret; exact ⟨by simp [d1, d2], FIN.out⟩)

end Go.Proofs.YtapjhmfbmkckaaaGreatDoor

/- errors.As and errors.Is at an error that is a *Spot whose Err is a Code: the library's own text walked, over the model's entries for internal/reflectlite; and the law's own question, whether an error is a Spot at that place with that Code. -/
namespace Go.Proofs.YtapjhmfbmkckaaaGreatDoor
open Go.RowKit Go.Extern.Stop Go.Stop Go.Extern

theorem sp_valueOfPP (t : Addr) (w : World) : (ReflectliteValue.unpack (.iface 105 (.pointer (some t)))).run Tryz.prog w
    = .ok (.agg #[.pointer (some ⟨4, 105, none⟩), .pointer (some ⟨w.heap.size, 0, none⟩), .int .u64 150]) (w.alloc (.cells #[.pointer (some t)] 105)) := by kernel_rfl
theorem sp_typePP (a : Addr) (w : World) : (ReflectliteValue.methodAny (ReflectliteValue.valueError "reflectlite.Value.Type" 0) (fun t _ _ _ => ReflectliteType.toType t) #[.agg #[.pointer (some ⟨4, 105, none⟩), .pointer (some a), .int .u64 150]]).run Tryz.prog w
    = .ok (.iface 194 (.agg #[.pointer (some ⟨4, 105, none⟩)])) w := by kernel_rfl
theorem sp_methodKind (h : Value) (w : World) : (Go.method 374 194 (.agg #[h]) "Kind").run Tryz.prog w = .ok (201, h) w := by kernel_rfl
theorem sp_kindPP (w : World) : ((ReflectliteType.abiMethod fun t => (fun a : Nat => Value.int IntKind.u8 (a : Int)) <$> Rtype.kind t) #[.pointer (some ⟨4, 105, none⟩)]).run Tryz.prog w = .ok (.int .u8 22) w := by kernel_rfl
theorem sp_kindP (w : World) : ((ReflectliteType.abiMethod fun t => (fun a : Nat => Value.int IntKind.u8 (a : Int)) <$> Rtype.kind t) #[.pointer (some ⟨4, 91, none⟩)]).run Tryz.prog w = .ok (.int .u8 22) w := by kernel_rfl

theorem rl_method (z : Sem Value) (f : TypeId → Addr → Nat → Nat → Sem Value) (v : Value) :
    ReflectliteValue.method z f #[v] = (do match ← ReflectliteValue.parts v with | none => z | some (t, a, fl) => f t a fl (fl % 32)) := rfl
theorem sp_partsPP (a : Addr) (w : World) : (ReflectliteValue.parts (.agg #[.pointer (some ⟨4, 105, none⟩), .pointer (some a), .int .u64 150])).run Tryz.prog w = .ok (some (105, a, 150)) w := by kernel_rfl
theorem sp_isNilPP (a p : Addr) (W : World) (ha : W.cell? a = some (.pointer (some p))) :
    (ReflectliteValue.method (ReflectliteValue.valueError "reflectlite.Value.IsNil" 0) ReflectliteValue.isNil #[.agg #[.pointer (some ⟨4, 105, none⟩), .pointer (some a), .int .u64 150]]).run Tryz.prog W = .ok (.bool false) W := by
  rw [rl_method]
  simp only [Sem.run_bind, sp_partsPP, Result.andThen]
  simp [ReflectliteValue.isNil, loadVar, isAgg, underlying, Tryz.underlying105, ha, Result.andThen]

theorem sp_methodElem (h : Value) (w : World) : (Go.method 374 194 (.agg #[h]) "Elem").run Tryz.prog w = .ok (214, .agg #[h]) w := by kernel_rfl
theorem sp_methodImplements (h : Value) (w : World) : (Go.method 374 194 (.agg #[h]) "Implements").run Tryz.prog w = .ok (215, .agg #[h]) w := by kernel_rfl
theorem sp_methodAssignableTo (h : Value) (w : World) : (Go.method 374 194 (.agg #[h]) "AssignableTo").run Tryz.prog w = .ok (212, .agg #[h]) w := by kernel_rfl
theorem sp_elemPP (w : World) : (ReflectliteType.method ReflectliteType.elem #[.agg #[.pointer (some ⟨4, 105, none⟩)]]).run Tryz.prog w = .ok (.iface 194 (.agg #[.pointer (some ⟨4, 91, none⟩)])) w := by kernel_rfl
theorem sp_implements (w : World) : (ReflectliteType.relation "Implements" ReflectliteType.implements_ #[.agg #[.pointer (some ⟨4, 91, none⟩)], .iface 194 (.agg #[.pointer (some ⟨4, 34, none⟩)])]).run Tryz.prog w = .ok (.bool true) w := by kernel_rfl
theorem sp_typeOfP (v : Value) (w : World) : (ReflectliteType.typeOf #[.iface 91 v]).run Tryz.prog w = .ok (.iface 194 (.agg #[.pointer (some ⟨4, 91, none⟩)])) w := by kernel_rfl
theorem sp_assignable (w : World) : (ReflectliteType.relation "AssignableTo" ReflectliteType.assignableTo #[.agg #[.pointer (some ⟨4, 91, none⟩)], .iface 194 (.agg #[.pointer (some ⟨4, 91, none⟩)])]).run Tryz.prog w = .ok (.bool true) w := by kernel_rfl
theorem sp_valueOfP (e : Addr) (w : World) : (ReflectliteValue.unpack (.iface 91 (.pointer (some e)))).run Tryz.prog w
    = .ok (.agg #[.pointer (some ⟨4, 91, none⟩), .pointer (some ⟨w.heap.size, 0, none⟩), .int .u64 150]) (w.alloc (.cells #[.pointer (some e)] 91)) := by kernel_rfl
theorem sp_elemOfPP (w : World) : (Rtype.elem? 105).run Tryz.prog w = .ok (some 91) w := by kernel_rfl
theorem sp_mkP (p : Addr) (w : World) : (ReflectliteValue.mk 91 p ReflectliteValue.flagAddr).run Tryz.prog w = .ok (.agg #[.pointer (some ⟨4, 91, none⟩), .pointer (some p), .int .u64 406]) w := by kernel_rfl
theorem sp_elemVPP (a p : Addr) (W : World) (ha : W.cell? a = some (.pointer (some p))) :
    (ReflectliteValue.method (ReflectliteValue.valueError "reflectlite.Value.Elem" 0) ReflectliteValue.elem #[.agg #[.pointer (some ⟨4, 105, none⟩), .pointer (some a), .int .u64 150]]).run Tryz.prog W
      = .ok (.agg #[.pointer (some ⟨4, 91, none⟩), .pointer (some p), .int .u64 406]) W := by
  rw [rl_method]
  simp only [Sem.run_bind, sp_partsPP, Result.andThen]
  simp [ReflectliteValue.elem, loadVar, isAgg, underlying, Tryz.underlying105, ha, Result.andThen, sp_elemOfPP, sp_mkP]
theorem rl_set (v x : Value) : ReflectliteValue.set #[v, x] = (do
    let (some (dst, a, fl), some (src, b, _)) := (← ReflectliteValue.parts v, ← ReflectliteValue.parts x)
      | unsupported (.noEntry "extern/(internal/reflectlite.Value).Set.zeroValue")
    if fl / ReflectliteValue.flagAddr % 2 == 0 then unsupported (.noEntry "extern/(internal/reflectlite.Value).Set.unaddressable")
    let val ← loadVar src b
    if ← Rtype.directlyAssignable dst src then storeVar dst a val
    else if ← Rtype.implements dst src then
      if (← Rtype.kind src) == 20 then
        match val with
        | .nilIface => unsupported (.noEntry "extern/reflectlite: a nil value of one interface type handed on as a value of another")
        | _ => storeVar dst a val
      else storeVar dst a (.iface src val)
    else panicString ("reflectlite.Set: value of type " ++ (← Rtype.spelt src) ++ " is not assignable to type " ++ (← Rtype.spelt dst))
    pure (.tuple #[])) := rfl
theorem sp_partsA (a : Addr) (w : World) : (ReflectliteValue.parts (.agg #[.pointer (some ⟨4, 91, none⟩), .pointer (some a), .int .u64 406])).run Tryz.prog w = .ok (some (91, a, 406)) w := by kernel_rfl
theorem sp_partsB (a : Addr) (w : World) : (ReflectliteValue.parts (.agg #[.pointer (some ⟨4, 91, none⟩), .pointer (some a), .int .u64 150])).run Tryz.prog w = .ok (some (91, a, 150)) w := by kernel_rfl
theorem sp_direct (w : World) : (Rtype.directlyAssignable 91 91).run Tryz.prog w = .ok true w := by kernel_rfl
theorem sp_set (ta b e : Addr) (old : Value) (W : World) (hb : W.cell? b = some (.pointer (some e))) (ht : W.cell? ta = some old) (hf : W.frozen? ta = false) :
    (ReflectliteValue.set #[.agg #[.pointer (some ⟨4, 91, none⟩), .pointer (some ta), .int .u64 406], .agg #[.pointer (some ⟨4, 91, none⟩), .pointer (some b), .int .u64 150]]).run Tryz.prog W
      = .ok (.tuple #[]) (W.setCell ta (.pointer (some e))) := by
  rw [rl_set]
  simp only [Sem.run_bind, sp_partsA, sp_partsB, Result.andThen]
  simp [ReflectliteValue.flagAddr, loadVar, isAgg, underlying, Tryz.underlying91, hb, Result.andThen, sp_direct, storeVar, Value.cells, storeCells, Addr.add]
  rw [run_store Tryz.prog W ta _ _ (by rfl)]
  simp [ht, hf]

/-- The library's variable errors.errorType holds the handle of 'error'. -/
def ErrT (w : World) : Prop := w.cell? ⟨0, 0, none⟩ = some (.iface 194 (.agg #[.pointer (some ⟨4, 34, none⟩)]))
theorem ErrT.lt {w : World} (h : ErrT w) : 0 < w.heap.size := by
  rcases Nat.lt_or_ge 0 w.heap.size with h0 | h0
  · exact h0
  · unfold ErrT at h
    simp [World.cell?, Array.getElem?_eq_none h0] at h
theorem ErrT.on {w w' : World} (h : ErrT w) (hb : Below w.heap.size w w') : ErrT w' := (hb.cell (p := ⟨0, 0, none⟩) h.lt).trans h

set_option maxHeartbeats 4000000 in
theorem as_spot (e t : Addr) (old : Value) (w : World) (hg : ErrT w) (ht0 : w.cell? t = some old) (hf0 : w.frozen? t = false) :
    Calls Tryz.prog 59 #[.iface 91 (.pointer (some e)), .iface 105 (.pointer (some t))] w fun ev w' => ev = .returned (.bool true) ∧ w' = ((((w.alloc (.cells #[.pointer (some t)] 105)).alloc (.cells #[.pointer (some ⟨4, 105, none⟩), .pointer (some ⟨w.heap.size, 0, none⟩), .int .u64 150] 137)).alloc (.cells #[.pointer (some ⟨4, 105, none⟩), .pointer (some ⟨w.heap.size, 0, none⟩), .int .u64 150] 137)).alloc (.cells #[.pointer (some e)] 91)).setCell t (.pointer (some e)) := by
  have h6 := @run_callFunc_extern Tryz.prog 96 _ (fun args => ReflectliteValue.unpack (args.getD 0 (.tuple #[]))) Tryz.func96 (by kernel_rfl) (by kernel_rfl) (by kernel_rfl) (by kernel_rfl)
  have h7 := @run_callFunc_extern Tryz.prog 97 _ (ReflectliteValue.methodAny (ReflectliteValue.valueError "reflectlite.Value.Type" 0) (fun t _ _ _ => ReflectliteType.toType t)) Tryz.func97 (by kernel_rfl) (by kernel_rfl) (by kernel_rfl) (by kernel_rfl)
  have h8 := @run_callFunc_extern Tryz.prog 98 _ (ReflectliteValue.method (ReflectliteValue.valueError "reflectlite.Value.IsNil" 0) ReflectliteValue.isNil) Tryz.func98 (by kernel_rfl) (by kernel_rfl) (by kernel_rfl) (by kernel_rfl)
  have h27 := @run_callFunc_extern Tryz.prog 201 _ (ReflectliteType.abiMethod fun t => do pure (.int .u8 (← Rtype.kind t))) Tryz.func201 (by kernel_rfl) (by kernel_rfl) (by kernel_rfl) (by kernel_rfl)
  have h37 := @run_callFunc_extern Tryz.prog 214 _ (ReflectliteType.method ReflectliteType.elem) Tryz.func214 (by kernel_rfl) (by kernel_rfl) (by kernel_rfl) (by kernel_rfl)
  have h38 := @run_callFunc_extern Tryz.prog 215 _ (ReflectliteType.relation "Implements" ReflectliteType.implements_) Tryz.func215 (by kernel_rfl) (by kernel_rfl) (by kernel_rfl) (by kernel_rfl)
  have h10 := @run_callFunc_extern Tryz.prog 116 _ ReflectliteType.typeOf Tryz.func116 (by kernel_rfl) (by kernel_rfl) (by kernel_rfl) (by kernel_rfl)
  have h35 := @run_callFunc_extern Tryz.prog 212 _ (ReflectliteType.relation "AssignableTo" ReflectliteType.assignableTo) Tryz.func212 (by kernel_rfl) (by kernel_rfl) (by kernel_rfl) (by kernel_rfl)
  have h11 := @run_callFunc_extern Tryz.prog 140 _ (ReflectliteValue.method (ReflectliteValue.valueError "reflectlite.Value.Elem" 0) ReflectliteValue.elem) Tryz.func140 (by kernel_rfl) (by kernel_rfl) (by kernel_rfl) (by kernel_rfl)
  have h12 := @run_callFunc_extern Tryz.prog 141 _ ReflectliteValue.set Tryz.func141 (by kernel_rfl) (by kernel_rfl) (by kernel_rfl) (by kernel_rfl)
  have tO := sp_typeOfP
  have mA := sp_methodAssignableTo
  have a25 := sp_assignable
  have v25 := sp_valueOfP
  have f6 := sp_valueOfPP
  have f7 := sp_typePP
  have mK := sp_methodKind
  have mE := sp_methodElem
  have mI := sp_methodImplements
  have k27 := sp_kindPP
  have k25 := sp_kindP
  have e27 := sp_elemPP
  have i25 := sp_implements
  have n8 := sp_isNilPP ⟨w.heap.size, 0, none⟩ t ((w.alloc (.cells #[.pointer (some t)] 105)).alloc (.cells #[.pointer (some ⟨4, 105, none⟩), .pointer (some ⟨w.heap.size, 0, none⟩), .int .u64 150] 137)) (by simp)
  have hlt : 0 < w.heap.size := hg.lt
  have hg2 : ((w.alloc (.cells #[.pointer (some t)] 105)).alloc (.cells #[.pointer (some ⟨4, 105, none⟩), .pointer (some ⟨w.heap.size, 0, none⟩), .int .u64 150] 137)).cell? ⟨0, 0, none⟩ = some (.iface 194 (.agg #[.pointer (some ⟨4, 34, none⟩)])) := by
    rw [World.cell?_alloc_lt _ _ ⟨0, 0, none⟩ (by simp <;> omega), World.cell?_alloc_lt _ _ ⟨0, 0, none⟩ hlt]; exact hg
  have htl : t.block < w.heap.size := by
    rcases Nat.lt_or_ge t.block w.heap.size with h | h
    · exact h
    · simp [World.cell?, Array.getElem?_eq_none h] at ht0
  have el := sp_elemVPP ⟨w.heap.size, 0, none⟩ t (((w.alloc (.cells #[.pointer (some t)] 105)).alloc (.cells #[.pointer (some ⟨4, 105, none⟩), .pointer (some ⟨w.heap.size, 0, none⟩), .int .u64 150] 137)).alloc (.cells #[.pointer (some ⟨4, 105, none⟩), .pointer (some ⟨w.heap.size, 0, none⟩), .int .u64 150] 137)) (by rw [World.cell?_alloc_lt _ _ ⟨w.heap.size, 0, none⟩ (by simp; omega)]; simp)
  have st := sp_set t ⟨w.heap.size + 1 + 1 + 1, 0, none⟩ e old ((((w.alloc (.cells #[.pointer (some t)] 105)).alloc (.cells #[.pointer (some ⟨4, 105, none⟩), .pointer (some ⟨w.heap.size, 0, none⟩), .int .u64 150] 137)).alloc (.cells #[.pointer (some ⟨4, 105, none⟩), .pointer (some ⟨w.heap.size, 0, none⟩), .int .u64 150] 137)).alloc (.cells #[.pointer (some e)] 91))
    (by rw [World.cell?_alloc_at _ _ _ _ (by simp)]; rfl)
    (by rw [World.cell?_alloc_lt _ _ t (by simp; omega), World.cell?_alloc_lt _ _ t (by simp; omega), World.cell?_alloc_lt _ _ t (by simp; omega), World.cell?_alloc_lt _ _ t htl]; exact ht0)
    (by rw [World.frozen?_alloc_old _ _ t (by simp; omega), World.frozen?_alloc_old _ _ t (by simp; omega), World.frozen?_alloc_old _ _ t (by simp; omega), World.frozen?_alloc_old _ _ t (Nat.ne_of_lt htl)]; exact hf0)
  go_enter Tryz.func59, Tryz.ntmps59
  go_wp2
  refine wp_loop_rounds 1 ?_
  rw [rounds_succ]
  go_wp2
  go_ret
  exact ⟨rfl, rfl⟩

end Go.Proofs.YtapjhmfbmkckaaaGreatDoor

/- errors.Is at an error that is a *Spot whose Err is a Code, held against that Code: the library's own text walked. -/
namespace Go.Proofs.YtapjhmfbmkckaaaGreatDoor
open Go.RowKit Go.Extern.Stop Go.Stop Go.Extern

theorem sp_typeOfC (v : Value) (w : World) : (ReflectliteType.typeOf #[.iface 70 v]).run Tryz.prog w = .ok (.iface 194 (.agg #[.pointer (some ⟨4, 70, none⟩)])) w := by kernel_rfl
theorem sp_methodComparable (h : Value) (w : World) : (Go.method 374 194 (.agg #[h]) "Comparable").run Tryz.prog w = .ok (213, .agg #[h]) w := by kernel_rfl
theorem sp_comparableC (w : World) : ((ReflectliteType.method fun t => do Rtype.noPackHeld "Comparable" t; (fun a => Value.bool a.comparable) <$> typeInfo t) #[.agg #[.pointer (some ⟨4, 70, none⟩)]]).run Tryz.prog w = .ok (.bool true) w := by kernel_rfl
theorem sp_comp : (Tryz.prog.info? 70).map (·.comparable) = some true := by kernel_rfl
theorem sp_noIs (v : Value) (xT : TypeId) (w : World) : (Instr.typeAssert (.iface 91 v) xT 217 true).run Tryz.prog w = .ok (.tuple #[.nilIface, .bool false]) w := run_typeAssert_lacksB Tryz.underlying217 (by kernel_rfl) (by kernel_rfl) v xT w
theorem sp_hasUnwrap (v : Value) (xT : TypeId) (w : World) : (Instr.typeAssert (.iface 91 v) xT 201 true).run Tryz.prog w = .ok (.tuple #[.iface 91 v, .bool true]) w := run_typeAssert_hasB Tryz.underlying201 (by kernel_rfl) v xT w
theorem sp_methodUnwrap (v : Value) (w : World) : (Go.method 374 91 v "Unwrap").run Tryz.prog w = .ok (206, v) w := by kernel_rfl

/-- errors.Is(e, c), e a *Spot whose Err is the Code c. -/
theorem is_spot (b : Nat) (c : Int) (w : World) (h1 : w.cell? ⟨b, 1, none⟩ = some (.iface 70 (.int .i64 c))) :
    Calls Tryz.prog 76 #[.iface 91 (.pointer (some ⟨b, 0, none⟩)), .iface 70 (.int .i64 c)] w fun e w' => e = .returned (.bool true) ∧ w' = w := by
  have h8 := @run_callFunc_extern Tryz.prog 116 _ ReflectliteType.typeOf Tryz.func116 (by kernel_rfl) (by kernel_rfl) (by kernel_rfl) (by kernel_rfl)
  have h32 := @run_callFunc_extern Tryz.prog 213 _ (ReflectliteType.method fun t => do Rtype.noPackHeld "Comparable" t; pure (.bool (← typeInfo t).comparable)) Tryz.func213 (by kernel_rfl) (by kernel_rfl) (by kernel_rfl) (by kernel_rfl)
  have tT := sp_typeOfC
  have cT := sp_comparableC
  have mR := sp_methodComparable
  have nE := sp_noIs
  have uW := sp_hasUnwrap
  have mU := sp_methodUnwrap
  have heq := Lib.run_eql_iface_int (P := Tryz.prog) (k := .i64) w c c Tryz.underlying34 sp_comp Tryz.underlying70
  have hty := run_eql_iface_types (P := Tryz.prog) 91 70 (.pointer (some ⟨b, 0, none⟩)) (.int .i64 c) Tryz.underlying34 (by decide) w
  go_enter Tryz.func76, Tryz.ntmps76
  go_wp2
  refine wp_loop_rounds 2 ?_
  rw [rounds_succ]
  go_wp2
  rw [rounds_succ]
  go_wp2
  go_ret
  exact ⟨rfl, rfl⟩

end Go.Proofs.YtapjhmfbmkckaaaGreatDoor

/- The law's own question: an error that is a *Spot at a place with a Code is one. -/
namespace Go.Proofs.YtapjhmfbmkckaaaGreatDoor
open Go.RowKit

theorem sp_compP : (Tryz.prog.info? 91).map (·.comparable) = some true := by kernel_rfl
theorem sp_sizeS : (Tryz.prog.info? 82).map (·.size) = some 2 := by kernel_rfl
theorem sp_eqSame (a : Addr) (w : World) : (binOp .eql 34 (.iface 91 (.pointer (some a))) (.iface 91 (.pointer (some a)))).run Tryz.prog w = .ok (.bool true) w := by
  obtain ⟨i, hi, hcmp⟩ := Option.map_eq_some_iff.1 sp_compP
  obtain ⟨j, hj, -⟩ := Option.map_eq_some_iff.1 sp_sizeS
  exact run_eql_iface_ptr_same (P := Tryz.prog) w a Tryz.underlying34 Tryz.underlying91 hi hcmp hj
theorem sp_neSame (a : Addr) (w : World) : (binOp .neq 34 (.iface 91 (.pointer (some a))) (.iface 91 (.pointer (some a)))).run Tryz.prog w = .ok (.bool false) w := by
  have h := sp_eqSame a w
  simp only [binOp] at h ⊢
  cases he : (Op.equal 34 (.iface 91 (.pointer (some a))) (.iface 91 (.pointer (some a)))).run Tryz.prog w <;> simp_all [Result.andThen]
theorem sp_eqCode (a b : Int) (w : World) : (binOp .eql 34 (.iface 70 (.int .i64 a)) (.iface 70 (.int .i64 b))).run Tryz.prog w = .ok (.bool (a == b)) w :=
  Lib.run_eql_iface_int (P := Tryz.prog) (k := .i64) w a b Tryz.underlying34 sp_comp Tryz.underlying70

theorem cell_on {w W : World} {b o : Nat} {v : Value} (hb : Below w.heap.size w W) (h : b < w.heap.size) (h1 : w.cell? ⟨b, o, none⟩ = some v) : W.cell? ⟨b, o, none⟩ = some v := (hb.cell (p := ⟨b, o, none⟩) h).trans h1

/-- errors.As in one word: the target holds the Spot, all below is as it was. -/
theorem as_below (e : Addr) (w W : World) (old : Value) (hg : ErrT W) (hb : Below w.heap.size w W) (ht : W.cell? ⟨w.heap.size, 0, none⟩ = some old) (hf : W.frozen? ⟨w.heap.size, 0, none⟩ = false) :
    Calls Tryz.prog 59 #[.iface 91 (.pointer (some e)), .iface 105 (.pointer (some ⟨w.heap.size, 0, none⟩))] W fun ev w' => ev = .returned (.bool true) ∧ w'.cell? ⟨w.heap.size, 0, none⟩ = some (.pointer (some e)) ∧ Below w.heap.size w w' := by
  have hlt : w.heap.size < W.heap.size := by
    rcases Nat.lt_or_ge w.heap.size W.heap.size with h | h
    · exact h
    · simp [World.cell?, Array.getElem?_eq_none h] at ht
  refine (as_spot e _ old W hg ht hf).mono ?_
  rintro ev w' ⟨rfl, rfl⟩
  refine ⟨rfl, ?_, ?_⟩
  · exact World.cell?_setCell_same' _ _ _ (by
      rw [World.cell?_alloc_lt _ _ _ (by simp; omega), World.cell?_alloc_lt _ _ _ (by simp; omega), World.cell?_alloc_lt _ _ _ (by simp; omega), World.cell?_alloc_lt _ _ _ hlt, ht]; rfl)
  · repeat (first | exact hb | with_reducible refine below_new ?_ _ | with_reducible refine below_put ?_ (by simp <;> omega) _)

set_option maxHeartbeats 2000000 in
theorem isSpot_any (b : Nat) (p c : Int) (w : World) (hg : ErrT w) (hb : b < w.heap.size) (h0 : w.cell? ⟨b, 0, none⟩ = some (.int .i64 p)) (h1 : w.cell? ⟨b, 1, none⟩ = some (.iface 70 (.int .i64 c))) :
    Calls Tryz.prog 34 #[.iface 91 (.pointer (some ⟨b, 0, none⟩)), .int .i64 p, .int .i64 c] w fun e w' => e = .returned (.bool true) ∧ Below w.heap.size w w' := by
  have HB := Lib.hid hb
  have H0 := Lib.hid h0
  have H1 := Lib.hid h1
  clear hb h0 h1
  have hne := sp_neSame ⟨b, 0, none⟩
  have heq := sp_eqCode c c
  go_enter Tryz.func34, Tryz.ntmps34
  go_wp2_with fail
  refine (as_below _ w _ (.pointer none) (hg.on (below_new (Below.refl _ _) _)) (below_new (Below.refl _ _) _) (by go_simp) (by go_simp)).mono ?_; rintro e w1 ⟨rfl, ct, hb1⟩
  have c0 := cell_on hb1 HB.out H0.out
  have c1 := cell_on hb1 HB.out H1.out
  go_wp2_with fail
  refine (is_spot _ c _ c1).mono ?_; rintro e w' ⟨rfl, rfl⟩
  go_wp2
  go_ret
  exact ⟨rfl, hb1⟩

end Go.Proofs.YtapjhmfbmkckaaaGreatDoor

/- The walk of ExprParses: whatever text is handed in. -/
namespace Go.Proofs.YtapjhmfbmkckaaaGreatDoor
open Go.RowKit
open Go.Sort
open M

theorem told_any (g : Nat) (j b : Nat) (w : World) (hg : ErrT w) (h : SpC g j b w) :
    Calls Tryz.prog 14 #[.iface 91 (.pointer (some ⟨g, 0, none⟩)), .int .i64 b, .int .i64 j] w fun e w' => e = .returned (.bool true) ∧ Below w.heap.size w w' := by
  have IS := Lib.hid (isSpot_any g j b w hg h.1 h.2.1 h.2.2)
  have h0 : ¬ (j : Int) < 0 := by omega
  clear hg h
  go_enter Tryz.func14, Tryz.ntmps14
  go_wp2_with fail
  refine IS.out.mono ?_; rintro e w1 ⟨rfl, hb1⟩
  go_wp2_with fail
  go_ret
  exact ⟨rfl, hb1⟩

def exA5 : ByteArray := ⟨#[123, 98, 58, 32, 73, 110, 116, 44, 32, 97, 58, 32, 84, 101, 120, 116, 125]⟩
def exB5 : ByteArray := ⟨#[123, 97, 58, 32, 73, 110, 116, 44, 32, 97, 58, 32, 84, 101, 120, 116, 125]⟩
def exT5 : Ty := .mk 5 ⟨#[]⟩ 0 ⟨#[]⟩ ⟨#[]⟩ [⟨#[97]⟩, ⟨#[98]⟩] [leafK 2, leafK 1]
theorem exA5_res : parR exA5 = .ok exT5 9 3 := by kernel_rfl
theorem exB5_res : parR exB5 = .err 5 5 := by kernel_rfl

theorem noT_at (w : World) : TyV w (.agg #[.int .i64 0, .string ⟨#[]⟩, .int .i64 0, .string ⟨#[]⟩, .string ⟨#[]⟩, .slice none 0 0, .slice none 0 0]) noT := ⟨_, rfl, TyAt.zero w⟩
theorem same_noT : sameT noT noT = true := (sameT_iff _ _).2 rfl

end Go.Proofs.YtapjhmfbmkckaaaGreatDoor

/- The reference's May of modules: a declaration. -/
namespace Go.Proofs.YtapjhmfbmkckaaaGreatDoor
open Go.RowKit
open Go.Sort
open M

set_option maxRecDepth 100000 in
set_option maxHeartbeats 4000000 in
theorem rdecl0_any (k : Int) (s : ByteArray) (t : Ty) (An As : Option Addr) (cA cS : Nat) (w : World) (hT : TyAt w [.int .i64 t.kind, .string t.pkg, .int .i64 t.major, .string t.mod, .string t.name, .slice An t.names.length cA, .slice As t.subs.length cS] t) (hM : many t ≤ 9000) (z : s.size ≤ 9223372036854775807) :
    Calls Tryz.prog 54 #[.agg #[.int .i64 k, .string s, .int .i64 t.kind, .string t.pkg, .int .i64 t.major, .string t.mod, .string t.name, .slice An t.names.length cA, .slice As t.subs.length cS]] w fun e w' => e = .returned (.bool (mayD ⟨k, s, t⟩)) ∧ Below w.heap.size w w' := by
  obtain ⟨w0, hw0⟩ : ∃ w0, w0 = w.alloc (.cells #[.int .i64 k, .string s, .int .i64 t.kind, .string t.pkg, .int .i64 t.major, .string t.mod, .string t.name, .slice An t.names.length cA, .slice As t.subs.length cS] 45) := ⟨_, rfl⟩
  have B0 : Below w.heap.size w w0 := by rw [hw0]; exact below_new (Below.refl _ _) _
  have O0 : w0.heap[w.heap.size]? = some (.cells #[.int .i64 k, .string s, .int .i64 t.kind, .string t.pkg, .int .i64 t.major, .string t.mod, .string t.name, .slice An t.names.length cA, .slice As t.subs.length cS] 45 (0, 0)) := by rw [hw0]; exact heap_alloc_new w _
  have hl0 : w.heap.size < w0.heap.size := by rw [hw0]; simp
  have HV : Hid (mayD ⟨k, s, t⟩ = if k = 1 ∨ k = 2 then greatB s.data.toList && sameT t noT else if k = 3 then greatB s.data.toList && mayT t else if k = 4 then smallB s.data.toList && mayT t else false) := Lib.hid rfl
  have S0 := Lib.hid (fun w => refSmall_any s w z)
  have S1 := Lib.hid (fun w => refGreat_any s w z)
  have HT : Hid (∀ w', Below w.heap.size w w' → TyV w' (.agg #[.int .i64 t.kind, .string t.pkg, .int .i64 t.major, .string t.mod, .string t.name, .slice An t.names.length cA, .slice As t.subs.length cS]) t) := Lib.hid (fun w' hb => ⟨_, rfl, hT.keep hb⟩)
  have SM : Hid (∀ w', Below w.heap.size w w' → Calls Tryz.prog 28 #[.agg #[.int .i64 t.kind, .string t.pkg, .int .i64 t.major, .string t.mod, .string t.name, .slice An t.names.length cA, .slice As t.subs.length cS], .agg #[.int .i64 0, .string ⟨#[]⟩, .int .i64 0, .string ⟨#[]⟩, .string ⟨#[]⟩, .slice none 0 0, .slice none 0 0]] w' fun e w'' => e = .returned (.bool (sameT t noT)) ∧ Below w'.heap.size w' w'') := Lib.hid (fun w' hb => same_any _ t noT (Nat.le_refl _) _ _ w' (HT.out w' hb) (noT_at w'))
  have MY : Hid (∀ w', Below w.heap.size w w' → Calls Tryz.prog 17 #[.agg #[.int .i64 t.kind, .string t.pkg, .int .i64 t.major, .string t.mod, .string t.name, .slice An t.names.length cA, .slice As t.subs.length cS]] w' fun e w'' => e = .returned (.bool (mayT t)) ∧ Below w'.heap.size w' w'') := Lib.hid (fun w' hb => may_any t _ w' hM (HT.out w' hb))
  rw [HV.out]
  generalize smallB s.data.toList = b0 at S0
  generalize greatB s.data.toList = b1 at S1
  generalize sameT t noT = b2 at SM
  generalize mayT t = b3 at MY
  obtain ⟨V, hV⟩ : ∃ V, (if k = 1 ∨ k = 2 then b1 && b2 else if k = 3 then b1 && b3 else if k = 4 then b0 && b3 else false) = V := ⟨_, rfl⟩
  rw [hV]
  have HVV := Lib.hid hV
  clear hV
  have x1 := Lib.cell_of_heap O0 1
  simp at x1
  have HO := Lib.hid O0
  have HB := Lib.hid B0
  have HW0 := Lib.hid hw0
  clear hw0 B0 O0 HV z hT HT
  go_enter Tryz.func54, Tryz.ntmps54
  go_upto_region 1 with fail
  rw [← HW0.out]
  clear HW0
  go_wp2_with fail
  refine (S0.out _).mono ?_; rintro e w1 ⟨rfl, hb1⟩
  have O1 := (hb1.block _ hl0).trans HO.out
  have HB1 := Lib.hid (below_over HB.out hb1)
  have x1 := Lib.cell_of_heap O1 1
  simp at x1
  go_wp2_with fail
  refine (S1.out _).mono ?_; rintro e w2 ⟨rfl, rfl⟩
  have y0 := Lib.cell_of_heap O1 0
  have y1 := Lib.cell_of_heap O1 1
  have y2 := Lib.cell_of_heap O1 2
  have y3 := Lib.cell_of_heap O1 3
  have y4 := Lib.cell_of_heap O1 4
  have y5 := Lib.cell_of_heap O1 5
  have y6 := Lib.cell_of_heap O1 6
  have y7 := Lib.cell_of_heap O1 7
  have y8 := Lib.cell_of_heap O1 8
  simp at y0 y1 y2 y3 y4 y5 y6 y7 y8
  clear x1
  go_wp2_with fail
  refine (SM.out _ HB1.out).mono ?_; rintro e w3 ⟨rfl, hb3⟩
  have hl1 := Nat.lt_of_lt_of_le hl0 hb1.size
  have O3 := (hb3.block _ hl1).trans O1
  have B3 := below_over HB1.out hb3
  have HB3 := Lib.hid B3
  clear y0 y1 y2 y3 y4 y5 y6 y7 y8
  have y0 := Lib.cell_of_heap O3 0
  have y1 := Lib.cell_of_heap O3 1
  have y2 := Lib.cell_of_heap O3 2
  have y3 := Lib.cell_of_heap O3 3
  have y4 := Lib.cell_of_heap O3 4
  have y5 := Lib.cell_of_heap O3 5
  have y6 := Lib.cell_of_heap O3 6
  have y7 := Lib.cell_of_heap O3 7
  have y8 := Lib.cell_of_heap O3 8
  simp at y0 y1 y2 y3 y4 y5 y6 y7 y8
  clear O1 O3 B3 hb1 hb3 HO HB HB1 S0 S1 SM hl0 hl1
  by_cases h1 : k = 1
  · subst h1
    cases b1 <;> cases b2
    all_goals (go_wp2_with fail; go_ret; exact ⟨by rw [← HVV.out]; simp, HB3.out⟩)
  by_cases h2 : k = 2
  · subst h2
    cases b1 <;> cases b2
    all_goals (go_wp2_with fail; go_ret; exact ⟨by rw [← HVV.out]; simp, HB3.out⟩)
  have e1 : (k == 1) = false := by simpa using h1
  have e2 : (k == 2) = false := by simpa using h2
  by_cases h3 : k = 3
  · subst h3
    clear h1 h2 e1 e2
    cases b1 with
    | false => go_wp2_with fail; go_ret; exact ⟨by rw [← HVV.out]; simp, HB3.out⟩
    | true =>
      go_wp2_with fail
      refine (MY.out _ HB3.out).mono ?_; rintro e w4 ⟨rfl, hb4⟩
      have FIN := Lib.hid (below_over HB3.out hb4)
      cases b3
      all_goals (go_wp2_with fail; go_ret; exact ⟨by rw [← HVV.out]; simp, FIN.out⟩)
  have e3 : (k == 3) = false := by simpa using h3
  by_cases h4 : k = 4
  · subst h4
    clear h1 h2 h3 e1 e2 e3
    cases b0 with
    | false => go_wp2_with fail; go_ret; exact ⟨by rw [← HVV.out]; simp, HB3.out⟩
    | true =>
      go_wp2_with fail
      refine (MY.out _ HB3.out).mono ?_; rintro e w4 ⟨rfl, hb4⟩
      have FIN := Lib.hid (below_over HB3.out hb4)
      cases b3
      all_goals (go_wp2_with fail; go_ret; exact ⟨by rw [← HVV.out]; simp, FIN.out⟩)
  have e4 : (k == 4) = false := by simpa using h4
  have RV : V = false := by rw [← HVV.out, if_neg (by simp [h1, h2]), if_neg h3, if_neg h4]
  subst RV
  clear h1 h2 h3 h4
  go_wp2_with fail
  go_ret
  exact ⟨rfl, HB3.out⟩

end Go.Proofs.YtapjhmfbmkckaaaGreatDoor

/- The reference's May of modules. -/
namespace Go.Proofs.YtapjhmfbmkckaaaGreatDoor
open Go.RowKit
open Go.Sort
open M

def mayM (m : Mo) : Bool := smallB m.name.data.toList && (decide (m.imps.length ≤ 20) && (decide (m.decs.length ≤ 60) && (m.imps.all mayI && m.decs.all mayD)))
theorem all_snoc {α : Type} (p : α → Bool) (l : List α) (j : Nat) (x : α) (h : l[j]? = some x) : (l.take (j + 1)).all p = ((l.take j).all p && p x) := by
  rw [List.take_add_one, h, List.all_append]; simp
theorem all_part {α : Type} (p : α → Bool) (l : List α) (j : Nat) (h : (l.take j).all p = false) : l.all p = false := by
  rw [← List.take_append_drop j l, List.all_append, h]; rfl

set_option maxRecDepth 100000 in
set_option maxHeartbeats 8000000 in
theorem rmay6_any (m : Mo) (l : List Value) (w : World) (h : MoAt w l m) (hM : ∀ d ∈ m.decs, many d.typ ≤ 9000) : Calls Tryz.prog 16 #[.agg l.toArray] w fun e w' => e = .returned (.bool (mayM m)) ∧ Below w.heap.size w w' := by
  obtain ⟨Ai, ci, Ad, cd, rfl, z1, z2, z3, hI, hD⟩ := h
  obtain ⟨w0, hw0⟩ : ∃ w0, w0 = w.alloc (.cells #[.string m.name, .slice Ai m.imps.length ci, .slice Ad m.decs.length cd] 25) := ⟨_, rfl⟩
  have B0 : Below w.heap.size w w0 := by rw [hw0]; exact below_new (Below.refl _ _) _
  have O0 : w0.heap[w.heap.size]? = some (.cells #[.string m.name, .slice Ai m.imps.length ci, .slice Ad m.decs.length cd] 25 (0, 0)) := by rw [hw0]; exact heap_alloc_new w _
  have hl0 : w.heap.size < w0.heap.size := by rw [hw0]; simp
  have S0 := Lib.hid (fun w => refSmall_any m.name w z1)
  obtain ⟨V, hV⟩ : ∃ V, mayM m = V := ⟨_, rfl⟩
  rw [hV]
  have HV : Hid ((smallB m.name.data.toList && (decide (m.imps.length ≤ 20) && (decide (m.decs.length ≤ 60) && (m.imps.all mayI && m.decs.all mayD)))) = V) := Lib.hid hV
  obtain ⟨ni, hni⟩ : ∃ ni, ni = m.imps.length := ⟨_, rfl⟩
  obtain ⟨nd, hnd⟩ : ∃ nd, nd = m.decs.length := ⟨_, rfl⟩
  rw [← hni] at z2 O0 hw0 HV
  rw [← hnd] at z3 O0 hw0 HV
  rw [← hni, ← hnd]
  have HNI := Lib.hid hni
  have HND := Lib.hid hnd
  have HI := Lib.hid (hI.below B0)
  have HD := Lib.hid (hD.below B0)
  have HM := Lib.hid hM
  have x0 := Lib.cell_of_heap O0 0
  simp at x0
  have HO := Lib.hid O0
  have HB := Lib.hid B0
  have HW0 := Lib.hid hw0
  generalize smallB m.name.data.toList = b0 at S0 HV
  clear hV hI hD hM hw0 B0 O0 hni hnd z1
  go_enter Tryz.func16, Tryz.ntmps16
  go_upto_region 1 with fail
  rw [← HW0.out]
  clear HW0
  go_wp2_with fail
  refine (S0.out _).mono ?_; rintro e w1 ⟨rfl, hb1⟩
  have O1 := (hb1.block _ hl0).trans HO.out
  have HO1 := Lib.hid O1
  have x1 := Lib.cell_of_heap O1 1
  have x2 := Lib.cell_of_heap O1 2
  simp at x1 x2
  have HB1 := Lib.hid (below_over HB.out hb1)
  have HI1 := Lib.hid (HI.out.below hb1)
  have HD1 := Lib.hid (HD.out.below hb1)
  have hl1 := Nat.lt_of_lt_of_le hl0 hb1.size
  clear x0 hb1 O1 HB HI HD HO hl0 S0
  cases b0 with
  | false =>
    go_wp2_with fail
    go_ret
    exact ⟨by rw [← HV.out]; rfl, HB1.out⟩
  | true =>
  by_cases h20 : 20 < ni
  · have e1 : (20 : Int) < ni := by omega
    have e2 : decide (ni ≤ 20) = false := by simp; omega
    go_wp2_with fail
    go_ret
    exact ⟨by rw [← HV.out, e2]; rfl, HB1.out⟩
  have e20 : ¬ (20 : Int) < ni := by omega
  by_cases h60 : 60 < nd
  · have e1 : (60 : Int) < nd := by omega
    have e2 : decide (nd ≤ 60) = false := by simp; omega
    go_wp2_with fail
    go_ret
    exact ⟨by rw [← HV.out, e2]; simp, HB1.out⟩
  have e60 : ¬ (60 : Int) < nd := by omega
  have HV1 : Hid ((m.imps.all mayI && m.decs.all mayD) = V) := Lib.hid (by
    rw [← HV.out, decide_eq_true (show ni ≤ 20 by omega), decide_eq_true (show nd ≤ 60 by omega)]; rfl)
  clear HV
  go_wp2_with fail
  clear e20 e60
  go_loopw [3, 4] (fun okv iv wr => ∃ (j : Nat) (q : Bool), j ≤ ni ∧ iv = .int .i64 j ∧ okv = .bool q ∧ Hid ((m.imps.take j).all mayI = q) ∧ Below w1.heap.size w1 wr) (fun _ iv _ => ni - (intOf iv).toNat)
  case atStart => exact ⟨0, true, by omega, rfl, rfl, Lib.hid (by simp), Below.refl _ _⟩
  case round =>
    obtain ⟨j, q, hj, rfl, rfl, HQ, hb⟩ := hrel
    obtain ⟨wo, rfl⟩ : ∃ wo : World, wo = wr := ⟨_, rfl⟩
    have O := (hb.block _ hl1).trans HO1.out
    have x1 := Lib.cell_of_heap O 1
    have x2 := Lib.cell_of_heap O 2
    simp at x1 x2
    by_cases hgo : j < ni ∧ q = true
    · obtain ⟨hlt, rfl⟩ := hgo
      obtain ⟨x, hx⟩ : ∃ x, m.imps[j]? = some x := ⟨_, List.getElem?_eq_getElem (by rw [← HNI.out]; exact hlt)⟩
      obtain ⟨g, o, rfl, -, a0, a1, a2, a3, y1, y2, y3⟩ := (HI1.out.below hb).im hx
      have IM := Lib.hid (rimport0_any x wo y1 y2 y3)
      have HX := Lib.hid hx
      have HBo := Lib.hid hb
      clear hx O x2 y1 y2 y3 hb
      go_wp2_with fail
      refine IM.out.mono ?_; rintro e w3 ⟨rfl, hb3⟩
      have HB3 := Lib.hid (below_over HBo.out hb3)
      clear hb3 a0 a1 a2 a3 x1
      go_wp2_with fail
      go_roundw
      case rel => exact ⟨j + 1, mayI x, by omega, by go_num, rfl, Lib.hid (by rw [all_snoc _ _ _ _ HX.out, HQ.out]; rfl), HB3.out⟩
      case measure => simp [intOf]; omega
    · have hstop : ni ≤ j ∨ q = false := by
        rcases Nat.lt_or_ge j ni with a | a
        · cases q with
          | true => exact absurd ⟨a, rfl⟩ hgo
          | false => exact .inr rfl
        · exact .inl a
      have HQ2 : Hid (m.imps.all mayI = q) := Lib.hid (by
        rcases hstop with a | a
        · rw [← HQ.out, List.take_of_length_le (by rw [← HNI.out]; exact a)]
        · rw [a] at HQ ⊢
          exact all_part _ _ _ HQ.out)
      have hcase : ¬ j < ni ∨ (j < ni ∧ q = false) := by
        rcases Nat.lt_or_ge j ni with a | a
        · rcases hstop with b | b
          · omega
          · exact .inr ⟨a, b⟩
        · exact .inl (by omega)
      clear hgo hstop HQ O
      rcases hcase with hc | ⟨hc, rfl⟩
      all_goals
        go_wp2_with fail
        go_loopw [3, 5] (fun okv iv wr => ∃ (j : Nat) (p : Bool), j ≤ nd ∧ iv = .int .i64 j ∧ okv = .bool p ∧ Hid ((m.imps.all mayI && (m.decs.take j).all mayD) = p) ∧ Below w1.heap.size w1 wr) (fun _ iv _ => nd - (intOf iv).toNat)
        case atStart => exact ⟨0, _, by omega, rfl, rfl, Lib.hid (by rw [HQ2.out]; simp), hb⟩
        case round =>
          obtain ⟨k, p, hk, rfl, rfl, HP, hb2⟩ := hrel
          obtain ⟨wi, rfl⟩ : ∃ wi : World, wi = wr := ⟨_, rfl⟩
          have O := (hb2.block _ hl1).trans HO1.out
          have x2 := Lib.cell_of_heap O 2
          simp at x2
          clear x1
          by_cases hgo : k < nd ∧ p = true
          · obtain ⟨hlt, rfl⟩ := hgo
            obtain ⟨x, hx⟩ : ∃ x, m.decs[k]? = some x := ⟨_, List.getElem?_eq_getElem (by rw [← HND.out]; exact hlt)⟩
            obtain ⟨g, o, v0, v1, v2, v3, v4, v5, v6, rfl, -, a0, a1, u0, u1, u2, u3, u4, u5, u6, us, zs⟩ := (HD1.out.below hb2).de hx
            obtain ⟨An, cA, As, cS, ev, -⟩ := us.parts
            simp only [List.cons.injEq, and_true] at ev
            obtain ⟨rfl, rfl, rfl, rfl, rfl, rfl, rfl⟩ := ev
            have RD := Lib.hid (rdecl0_any x.kind x.name x.typ An As cA cS wi us (HM.out x (List.mem_of_getElem? hx)) zs)
            have HX := Lib.hid hx
            have HBo := Lib.hid hb2
            clear hx O us zs hb2
            go_wp2_with fail
            refine RD.out.mono ?_; rintro e w3 ⟨rfl, hb3⟩
            have HB3 := Lib.hid (below_over HBo.out hb3)
            clear hb3 a0 a1 u0 u1 u2 u3 u4 u5 u6 x2
            go_wp2_with fail
            go_roundw
            case rel => exact ⟨k + 1, mayD ⟨x.kind, x.name, x.typ⟩, by omega, by go_num, rfl, Lib.hid (by
              have hp := HP.out
              rw [Bool.and_eq_true] at hp
              rw [all_snoc _ _ _ _ HX.out, hp.1, hp.2]; rfl), HB3.out⟩
            case measure => simp [intOf]; omega
          · have hstop : nd ≤ k ∨ p = false := by
              rcases Nat.lt_or_ge k nd with a | a
              · cases p with
                | true => exact absurd ⟨a, rfl⟩ hgo
                | false => exact .inr rfl
              · exact .inl a
            have FV : Hid (p = V) := Lib.hid (by
              rw [← HV1.out, ← HP.out]
              rcases hstop with a | a
              · rw [List.take_of_length_le (by rw [← HND.out]; exact a)]
              · rw [a] at HP
                have hp := HP.out
                cases hA : m.imps.all mayI with
                | false => rfl
                | true =>
                  rw [hA, Bool.true_and] at hp
                  rw [Bool.true_and, Bool.true_and, hp, all_part _ _ _ hp])
            have hcase : ¬ k < nd ∨ (k < nd ∧ p = false) := by
              rcases Nat.lt_or_ge k nd with a | a
              · rcases hstop with b | b
                · omega
                · exact .inr ⟨a, b⟩
              · exact .inl (by omega)
            have FIN := Lib.hid (below_over HB1.out hb2)
            clear hgo hstop HP O
            rcases hcase with hc2 | ⟨hc2, rfl⟩
            all_goals
              go_wp2_with fail
              go_ret
              exact ⟨ret_bool FV.out.symm, FIN.out⟩

end Go.Proofs.YtapjhmfbmkckaaaGreatDoor

/- A number's decimal digits, and the walk of the reference's Digits. -/
namespace Go.Proofs.YtapjhmfbmkckaaaGreatDoor
open Go.RowKit

/-- A number's decimal digits. -/
def dec (n : Int) : ByteArray := ⟨(Lib.decDigits n.toNat).toArray⟩
theorem dec_size (n : Int) (h0 : 0 ≤ n) (h1 : n ≤ 9223372036854775807) : (dec n).size ≤ 20 := by
  unfold dec
  rw [Lib.size_eq, List.toList_toArray, Lib.decDigits_length]
  exact Lib.nDigits_le20 _ (by omega)

/-- An int as a byte. -/
def byteOf (x : Int) : UInt8 := UInt8.ofNat x.toNat
theorem dec_small (n : Int) (h0 : 0 ≤ n) (h1 : n < 10) : dec n = ⟨#[byteOf (48 + n)]⟩ := by
  unfold dec byteOf
  rw [show (48 + n).toNat = 48 + n.toNat by omega]
  rw [Lib.decDigits, dif_pos (by omega)]
theorem dec_big (n : Int) (h1 : 10 ≤ n) : dec n = dec (n / 10) ++ ⟨#[byteOf (48 + n % 10)]⟩ := by
  unfold dec byteOf
  rw [show (48 + n % 10).toNat = 48 + (n % 10).toNat by omega]
  rw [Lib.decDigits, dif_neg (by omega), show n.toNat / 10 = (n / 10).toNat by omega, show n.toNat % 10 = (n % 10).toNat by omega]
  exact (ByteArray.mk_append_mk _ _).symm

/-- A slice of one byte as a string, in whatever world holds its cell. -/
theorem conv_one (x : Int) (W : World) (b : Nat) (h : W.cell? ⟨b, 0, none⟩ = some (.int .u8 x)) :
    (convert 147 9 (.slice (some ⟨b, 0, none⟩) 1 1)).run Tryz.prog W = .ok (.string ⟨#[byteOf x]⟩) W :=
  run_convert_bytes_arg W 147 5 Tryz.underlying147 Tryz.underlying5 b 0 1 1 [x] rfl (fun i hi => by
    obtain rfl : i = 0 := by omega
    exact h) 9 Tryz.underlying9

end Go.Proofs.YtapjhmfbmkckaaaGreatDoor

/- Plain mathematics for layer 4: the texts of types. -/
namespace Go.Proofs.YtapjhmfbmkckaaaGreatDoor.M

/-- The first k texts, commas between, each name ahead of its text, if there are names. -/
def rowOf (L : List (List UInt8)) (ns : List ByteArray) : Nat → List UInt8
  | 0 => []
  | k + 1 => (if 0 < k then rowOf L ns k ++ [44, 32] else rowOf L ns k) ++ (if 0 < ns.length then (nameAt ns k).data.toList ++ [58, 32] else []) ++ L.getD k []
def kindText (k : Int) (p : ByteArray) (m : Int) (d n : ByteArray) (ns : List ByteArray) (L : List (List UInt8)) : List UInt8 :=
  if k = 1 then [73, 110, 116]
  else if k = 2 then [84, 101, 120, 116]
  else if k = 3 then [66, 111, 111, 108]
  else if k = 4 then [76, 105, 115, 116, 40] ++ L.getD 0 [] ++ [41]
  else if k = 5 then [123] ++ rowOf L ns L.length ++ [125]
  else if k = 6 then [91] ++ rowOf L ns L.length ++ [93]
  else if k = 7 then [40] ++ rowOf L [] (L.length - 1) ++ [41, 32, 45, 62, 32] ++ L.getD (L.length - 1) []
  else if k = 9 then [60] ++ p.data.toList ++ [32] ++ (dec m).data.toList ++ [32] ++ d.data.toList ++ [32] ++ n.data.toList ++ [62]
  else if d.size = 0 then n.data.toList
  else d.data.toList ++ [46] ++ n.data.toList
-- a type's text, and those of a list of types
mutual
def textT : Ty → List UInt8
  | .mk k p m d n ns ss => kindText k p m d n ns (textsT ss)
def textsT : List Ty → List (List UInt8)
  | [] => []
  | t :: r => textT t :: textsT r
end
theorem textT_eq (t : Ty) : textT t = kindText t.kind t.pkg t.major t.mod t.name t.names (textsT t.subs) := by cases t; rfl
theorem textsT_len : ∀ l : List Ty, (textsT l).length = l.length
  | [] => rfl
  | t :: r => by simp [textsT, textsT_len r]
theorem textsT_at : ∀ (l : List Ty) (i : Nat) (t : Ty), l[i]? = some t → (textsT l).getD i [] = textT t
  | [], i, t, h => by simp at h
  | a :: r, 0, t, h => by simp at h; subst h; rfl
  | a :: r, i + 1, t, h => by
    have := textsT_at r i t (by simpa using h)
    simpa [textsT] using this

theorem spell_len {f g : Int → Bool} {s : ByteArray} (h : spell f g s.data.toList = true) : s.size ≤ 20 := by
  have := ((spell_iff _ _ _).1 h).2.1
  rwa [len_size] at this
theorem small_len {s : ByteArray} (h : smallB s.data.toList = true) : s.size ≤ 20 := by
  unfold smallB at h
  simp only [Bool.and_eq_true] at h
  exact spell_len h.1
theorem great_len {s : ByteArray} (h : greatB s.data.toList = true) : s.size ≤ 20 := by
  unfold greatB at h
  simp only [Bool.and_eq_true] at h
  exact spell_len h.1
/-- In a type whose own fields may be each name has at most twenty bytes. -/
theorem own_names {t : Ty} (h : ownOk t = true) (i : Nat) (hi : i < t.names.length) : (nameAt t.names i).size ≤ 20 := by
  unfold ownOk at h
  simp only [Bool.and_eq_true] at h
  obtain ⟨⟨-, hn⟩, hs⟩ := h
  have hb := (namesOk_iff _ _).1 hn i hi
  unfold badName at hb
  simp only [Bool.or_eq_false_iff, Bool.and_eq_false_iff, Bool.not_eq_false'] at hb
  obtain ⟨⟨h5, h6⟩, -⟩ := hb
  by_cases k5 : t.kind = 5
  · rcases h5 with h5 | h5
    · rw [k5] at h5; cases h5
    · exact small_len h5
  by_cases k6 : t.kind = 6
  · rcases h6 with h6 | h6
    · rw [k6] at h6; cases h6
    · exact great_len h6
  exfalso
  unfold shapeOk at hs
  simp only [k5, k6, if_false] at hs
  have h0 : t.names.length ≠ 0 := by omega
  (repeat' split at hs) <;> simp_all

/-- A row's length. -/
theorem row_len (l : List Ty) (ns : List ByteArray) (hl : ∀ s, s ∈ l → (textT s).length + 24 ≤ 124 * many s) (hn : ∀ i, i < ns.length → (nameAt ns i).size ≤ 20) :
    ∀ k, k ≤ l.length → (rowOf (textsT l) ns k).length ≤ 124 * manyL (l.take k) := by
  intro k
  induction k with
  | zero => intro _; simp [rowOf]
  | succ k ih =>
    intro hk
    have a := ih (by omega)
    obtain ⟨s, hs⟩ : ∃ s, l[k]? = some s := ⟨_, List.getElem?_eq_getElem (by omega)⟩
    have b := hl s (List.mem_of_getElem? hs)
    have c : (nameAt ns k).size ≤ 20 := by
      rcases Nat.lt_or_ge k ns.length with h | h
      · exact hn k h
      · unfold nameAt; rw [List.getD_eq_getElem?_getD, List.getElem?_eq_none h]; exact Nat.zero_le _
    have d := len_size (nameAt ns k)
    rw [manyL_take l k _ hs]
    unfold rowOf
    rw [textsT_at l k _ hs]
    split <;> split <;> simp only [List.length_append, List.length_cons, List.length_nil, d] <;> omega
theorem getD_len (l : List Ty) (k : Nat) (hk : k < l.length) (hl : ∀ s, s ∈ l → (textT s).length + 24 ≤ 124 * many s) : ((textsT l).getD k []).length + 24 + 124 * manyL (l.take k) ≤ 124 * manyL l := by
  obtain ⟨s, hs⟩ : ∃ s, l[k]? = some s := ⟨_, List.getElem?_eq_getElem hk⟩
  have b := hl s (List.mem_of_getElem? hs)
  have c := manyL_take l k _ hs
  have d := manyL_take_le l (k + 1)
  rw [textsT_at l k _ hs]
  omega
/-- What may be is of a short text. -/
theorem own_len (t : Ty) (ho : ownOk t = true) (hl : ∀ s, s ∈ t.subs → (textT s).length + 24 ≤ 124 * many s) : (textT t).length + 24 ≤ 124 * many t := by
  have hN := own_names ho
  have hm : many t = 1 + manyL t.subs := by cases t; rfl
  have hr := row_len t.subs t.names hl hN
  have hr0 := row_len t.subs [] hl (fun i hi => by simp at hi)
  have htk : manyL (t.subs.take t.subs.length) = manyL t.subs := by rw [List.take_of_length_le (Nat.le_refl _)]
  have hLl := textsT_len t.subs
  have hs : shapeOk t = true := by
    unfold ownOk at ho
    simp only [Bool.and_eq_true] at ho
    exact ho.2
  rw [textT_eq]
  unfold kindText
  rw [hLl]
  by_cases k1 : t.kind = 1
  · simp [k1]; omega
  by_cases k2 : t.kind = 2
  · simp [k2]; omega
  by_cases k3 : t.kind = 3
  · simp [k3]; omega
  rw [if_neg k1, if_neg k2, if_neg k3]
  unfold shapeOk at hs
  rw [if_neg (by omega)] at hs
  by_cases k4 : t.kind = 4
  · rw [if_pos k4] at hs ⊢
    simp only [Bool.and_eq_true, decide_eq_true_eq] at hs
    have := getD_len t.subs 0 (by omega) hl
    simp only [List.length_append, List.length_cons, List.length_nil]
    omega
  rw [if_neg k4] at hs ⊢
  by_cases k5 : t.kind = 5
  · rw [if_pos k5]
    have := hr t.subs.length (Nat.le_refl _)
    simp only [List.length_append, List.length_cons, List.length_nil]
    omega
  rw [if_neg k5] at hs ⊢
  by_cases k6 : t.kind = 6
  · rw [if_pos k6]
    have := hr t.subs.length (Nat.le_refl _)
    simp only [List.length_append, List.length_cons, List.length_nil]
    omega
  rw [if_neg k6] at hs ⊢
  by_cases k7 : t.kind = 7
  · rw [if_pos k7] at hs ⊢
    simp only [Bool.and_eq_true, decide_eq_true_eq] at hs
    have a := hr0 (t.subs.length - 1) (by omega)
    have b := getD_len t.subs (t.subs.length - 1) (by omega) hl
    simp only [List.length_append, List.length_cons, List.length_nil]
    omega
  rw [if_neg k7] at hs ⊢
  by_cases k8 : t.kind = 8
  · rw [if_pos k8] at hs
    simp only [Bool.and_eq_true, Bool.or_eq_true] at hs
    have a := great_len hs.1.2
    have b : t.mod.size ≤ 20 := by
      rcases hs.2 with h | h
      · exact small_len h
      · have : t.mod.size = 0 := by simpa [emptyB] using h
        omega
    have c := len_size t.mod
    have d := len_size t.name
    rw [if_neg (by omega)]
    split <;> simp only [List.length_append, List.length_cons, List.length_nil, c, d] <;> omega
  rw [if_neg k8] at hs
  by_cases k9 : t.kind = 9
  · rw [if_pos k9] at hs ⊢
    simp only [Bool.and_eq_true, decide_eq_true_eq] at hs
    obtain ⟨⟨⟨⟨⟨-, h1⟩, h2⟩, h3⟩, h4⟩, h5⟩ := hs
    have a := small_len h1
    have b := small_len h2
    have c := great_len h3
    have d := dec_size t.major (by omega) (by omega)
    have e1 := len_size t.pkg
    have e2 := len_size t.mod
    have e3 := len_size t.name
    have e4 := len_size (dec t.major)
    simp only [List.length_append, List.length_cons, List.length_nil, e1, e2, e3, e4]
    omega
  · rw [if_neg k9] at hs
    cases hs
mutual
theorem text_len : ∀ t : Ty, allOk t = true → (textT t).length + 24 ≤ 124 * many t
  | .mk k p m d n ns ss, h => by
    rw [allOk_eq] at h
    simp only [Bool.and_eq_true] at h
    exact own_len _ h.1 (texts_len ss h.2)
theorem texts_len : ∀ l : List Ty, allOkL l = true → ∀ s, s ∈ l → (textT s).length + 24 ≤ 124 * many s
  | a :: r, h, s, hs => by
    unfold allOkL at h
    simp only [Bool.and_eq_true] at h
    rcases List.mem_cons.1 hs with e | hs
    · rw [e]; exact text_len a h.1
    · exact texts_len r h.2 s hs
end

end Go.Proofs.YtapjhmfbmkckaaaGreatDoor.M

/- Plain mathematics for layer 4: types that may be, and are unlike, have unlike texts. -/
namespace Go.Proofs.YtapjhmfbmkckaaaGreatDoor.M
open Go

theorem ddJ_small {u : Nat} (h : u < 10) : Lib.decDigits u = [UInt8.ofNat (48 + u)] := by rw [Lib.decDigits, dif_pos h]
theorem ddJ_big {u : Nat} (h : 10 ≤ u) : Lib.decDigits u = Lib.decDigits (u / 10) ++ [UInt8.ofNat (48 + u % 10)] := by rw [Lib.decDigits, dif_neg (by omega)]
def valJ (l : List UInt8) : Nat := l.foldl (fun a c => 10 * a + (c.toNat - 48)) 0
theorem valJ_dd : ∀ (n u : Nat), u < n → valJ (Lib.decDigits u) = u
  | 0, u, h => by omega
  | n + 1, u, h => by
    rcases Nat.lt_or_ge u 10 with h10 | h10
    · rw [ddJ_small h10]
      have e : (UInt8.ofNat (48 + u)).toNat = 48 + u := by rw [UInt8.toNat_ofNat']; omega
      simp [valJ]; omega
    · rw [ddJ_big h10]
      have ih := valJ_dd n (u / 10) (by omega)
      have e : (UInt8.ofNat (48 + u % 10)).toNat = 48 + u % 10 := by rw [UInt8.toNat_ofNat']; omega
      unfold valJ at ih ⊢
      rw [List.foldl_append, ih]
      simp only [List.foldl_cons, List.foldl_nil, e]
      omega
theorem ddJ_mem : ∀ (n u : Nat), u < n → ∀ c ∈ Lib.decDigits u, 48 ≤ c.toNat ∧ c.toNat ≤ 57
  | 0, u, h => by omega
  | n + 1, u, h => by
    intro c hc
    rcases Nat.lt_or_ge u 10 with h10 | h10
    · rw [ddJ_small h10] at hc
      obtain rfl := List.mem_singleton.1 hc
      rw [UInt8.toNat_ofNat']; omega
    · rw [ddJ_big h10] at hc
      rcases List.mem_append.1 hc with hc | hc
      · exact ddJ_mem n (u / 10) (by omega) c hc
      · obtain rfl := List.mem_singleton.1 hc
        rw [UInt8.toNat_ofNat']; omega
theorem dec_inj {m m' : Int} (h0 : 0 ≤ m) (h1 : 0 ≤ m') (h : (dec m).data.toList = (dec m').data.toList) : m = m' := by
  have a := valJ_dd _ m.toNat (Nat.lt_succ_self _)
  have b := valJ_dd _ m'.toNat (Nat.lt_succ_self _)
  have e : Lib.decDigits m.toNat = Lib.decDigits m'.toNat := by simpa [dec] using h
  rw [e, b] at a
  omega

/-- A letter or a digit. -/
def alnum (c : UInt8) : Bool := anyC (c.toNat : Int)
def Word (l : List UInt8) : Prop := ∀ c ∈ l, alnum c = true
/-- Nothing, or what is no letter and no digit first. -/
def Halt (l : List UInt8) : Prop := ∀ c r, l = c :: r → alnum c = false
theorem munch : ∀ {u v x y : List UInt8}, Word u → Word v → Halt x → Halt y → u ++ x = v ++ y → u = v ∧ x = y
  | [], [], x, y, _, _, _, _, h => ⟨rfl, h⟩
  | [], c :: v, x, y, _, hv, hx, _, h => by
    have := hx c (v ++ y) h
    rw [hv c (by simp)] at this; cases this
  | c :: u, [], x, y, hu, _, _, hy, h => by
    have := hy c (u ++ x) h.symm
    rw [hu c (by simp)] at this; cases this
  | c :: u, d :: v, x, y, hu, hv, hx, hy, h => by
    simp only [List.cons_append, List.cons.injEq] at h
    obtain ⟨rfl, h⟩ := h
    obtain ⟨e, h'⟩ := munch (fun a ha => hu a (by simp [ha])) (fun a ha => hv a (by simp [ha])) hx hy h
    exact ⟨by rw [e], h'⟩
theorem halt_cons {c : UInt8} {r : List UInt8} (h : alnum c = false) : Halt (c :: r) := fun a s e => by
  simp only [List.cons.injEq] at e
  rw [← e.1]; exact h

theorem word_all {g : Int → Bool} {f : Int → Bool} {s : ByteArray} (hf : ∀ n, f n = true → anyC n = true) (hg : ∀ n, g n = true → anyC n = true) (h : spell f g s.data.toList = true) : Word s.data.toList := by
  intro c hc
  obtain ⟨j, hj, rfl⟩ := List.getElem_of_mem hc
  obtain ⟨h0, h1, h2, h3⟩ := (spell_iff _ _ _).1 h
  have e : bt s.data.toList j = (((s.data.toList)[j]).toNat : Int) := by unfold bt; rw [List.getD_eq_getElem?_getD, List.getElem?_eq_getElem hj]; rfl
  unfold alnum
  rw [← e]
  rcases Nat.eq_zero_or_pos j with h' | h'
  · subst h'; exact hf _ h2
  · exact hg _ (h3 j h' hj)
theorem low_any' (n : Int) (h : lowC n = true) : anyC n = true := by unfold anyC; rw [h]; rfl
theorem up_any' (n : Int) (h : upC n = true) : anyC n = true := by unfold anyC; rw [h]; simp
theorem lowDig_any' (n : Int) (h : lowDigC n = true) : anyC n = true := by
  unfold lowDigC at h; unfold anyC
  rcases Bool.or_eq_true _ _ ▸ h with h | h <;> rw [h] <;> simp
theorem small_spell {s : ByteArray} (h : smallB s.data.toList = true) : spell lowC lowDigC s.data.toList = true := by
  unfold smallB at h; simp only [Bool.and_eq_true] at h; exact h.1
theorem great_spell {s : ByteArray} (h : greatB s.data.toList = true) : spell upC anyC s.data.toList = true := by
  unfold greatB at h; simp only [Bool.and_eq_true] at h; exact h.1
theorem small_word {s : ByteArray} (h : smallB s.data.toList = true) : Word s.data.toList := word_all low_any' lowDig_any' (small_spell h)
theorem great_word {s : ByteArray} (h : greatB s.data.toList = true) : Word s.data.toList := word_all up_any' (fun _ h => h) (great_spell h)
theorem dec_word (m : Int) : Word (dec m).data.toList := by
  intro c hc
  have hc' : c ∈ Lib.decDigits m.toNat := by simpa [dec] using hc
  have := ddJ_mem _ m.toNat (Nat.lt_succ_self _) c hc'
  unfold alnum anyC digC
  have h1 : (48 : Int) ≤ (c.toNat : Int) := by omega
  have h2 : (c.toNat : Int) ≤ 57 := by omega
  simp [h1, h2]
theorem spell_ne {f g : Int → Bool} {l : List UInt8} (h : spell f g l = true) : l ≠ [] := by
  intro e; subst e
  have := ((spell_iff _ _ _).1 h).1
  simp at this
theorem great_not_word {l : List UInt8} (h : greatB l = true) : l ∉ words := by
  unfold greatB wordB at h
  simp only [Bool.and_eq_true, Bool.not_eq_true', List.contains_eq_mem, decide_eq_false_iff_not] at h
  exact h.2
theorem small_not_word {l : List UInt8} (h : smallB l = true) : l ∉ words := by
  intro hm
  have h1 : 97 ≤ bt l 0 := by
    unfold smallB at h
    simp only [Bool.and_eq_true, spell_iff] at h
    have := h.1.2.2.1
    unfold lowC at this
    simp only [Bool.and_eq_true, decide_eq_true_eq] at this
    exact this.1
  have h2 : ∀ l ∈ words, bt l 0 < 97 := by decide
  have := h2 l hm
  omega

/-- What may stand behind a type: nothing, or one of these signs. -/
def Stop (l : List UInt8) : Prop := ∀ c r, l = c :: r → c = 41 ∨ c = 44 ∨ c = 125 ∨ c = 93
theorem Stop.halt {l : List UInt8} (h : Stop l) : Halt l := fun c r e => by
  rcases h c r e with rfl | rfl | rfl | rfl <;> decide
theorem stop_cons {c : UInt8} {r : List UInt8} (h : c = 41 ∨ c = 44 ∨ c = 125 ∨ c = 93) : Stop (c :: r) := fun a s e => by
  simp only [List.cons.injEq] at e
  rw [← e.1]; exact h

/-- A row's parts, a comma and a space between. -/
def tlC : List (List UInt8) → List UInt8
  | [] => []
  | x :: r => [44, 32] ++ x ++ tlC r
def joinC : List (List UInt8) → List UInt8
  | [] => []
  | x :: r => x ++ tlC r
theorem tlC_snoc : ∀ (l : List (List UInt8)) (x : List UInt8), tlC (l ++ [x]) = tlC l ++ [44, 32] ++ x
  | [], x => by simp [tlC]
  | a :: r, x => by simp [tlC, tlC_snoc r x]
theorem joinC_snoc (l : List (List UInt8)) (x : List UInt8) (h : l ≠ []) : joinC (l ++ [x]) = joinC l ++ [44, 32] ++ x := by
  cases l with
  | nil => exact absurd rfl h
  | cons a r => simp [joinC, tlC_snoc]
def itemAt (L : List (List UInt8)) (ns : List ByteArray) (i : Nat) : List UInt8 := (if 0 < ns.length then (nameAt ns i).data.toList ++ [58, 32] else []) ++ L.getD i []
theorem row_join (L : List (List UInt8)) (ns : List ByteArray) : ∀ k, rowOf L ns k = joinC ((List.range k).map (itemAt L ns))
  | 0 => rfl
  | k + 1 => by
    have ih := row_join L ns k
    rw [List.range_succ, List.map_append]
    show (if 0 < k then rowOf L ns k ++ [44, 32] else rowOf L ns k) ++ (if 0 < ns.length then (nameAt ns k).data.toList ++ [58, 32] else []) ++ L.getD k [] = _
    rcases Nat.eq_zero_or_pos k with h | h
    · subst h
      rw [if_neg (Nat.lt_irrefl 0)]
      simp [rowOf, joinC, tlC, itemAt]
    · rw [if_pos h, List.map_cons, List.map_nil, joinC_snoc _ _ (by intro e; have := congrArg List.length e; simp at this; omega), ← ih]
      simp [itemAt]

/-- A part: a name (or none), and a type. -/
def partT (nm : Bool) (p : ByteArray × Ty) : List UInt8 := (if nm then p.1.data.toList ++ [58, 32] else []) ++ textT p.2
/-- What is shown of a type by induction: what stands ahead of a stop is told apart. -/
def Told (s : Ty) : Prop := (∀ q x y, allOk q = true → Stop x → Stop y → textT s ++ x = textT q ++ y → s = q ∧ x = y)
theorem tl_inj (nm : Bool) (z : UInt8) (hz : z = 41 ∨ z = 125 ∨ z = 93) : ∀ (P P' : List (ByteArray × Ty)) (x y : List UInt8), (∀ p ∈ P, Told p.2) → (∀ p ∈ P', allOk p.2 = true) → (∀ p ∈ P, Word p.1.data.toList) → (∀ p ∈ P', Word p.1.data.toList) →
    tlC (P.map (partT nm)) ++ z :: x = tlC (P'.map (partT nm)) ++ z :: y → P.map (·.2) = P'.map (·.2) ∧ (nm = true → P.map (·.1) = P'.map (·.1)) ∧ x = y
  | [], [], x, y, _, _, _, _, h => by simp [tlC] at h; exact ⟨rfl, fun _ => rfl, h⟩
  | [], p :: P', x, y, _, _, _, _, h => by simp [tlC] at h; rcases hz with rfl | rfl | rfl <;> simp at h
  | p :: P, [], x, y, _, _, _, _, h => by simp [tlC] at h; rcases hz with rfl | rfl | rfl <;> simp at h
  | p :: P, q :: P', x, y, h1, h2, h3, h4, h => by
    have hs : ∀ (R : List (ByteArray × Ty)) (w : List UInt8), Stop (tlC (R.map (partT nm)) ++ z :: w) := by
      intro R w
      cases R with
      | nil => exact stop_cons (by rcases hz with h | h | h <;> simp [h])
      | cons a R => exact stop_cons (by simp)
    simp only [List.map_cons, tlC, List.append_assoc, List.cons_append, List.nil_append, List.cons.injEq, true_and] at h
    have hn : (nm = true → p.1 = q.1) ∧ textT p.2 ++ (tlC (P.map (partT nm)) ++ z :: x) = textT q.2 ++ (tlC (P'.map (partT nm)) ++ z :: y) := by
      cases nm with
      | false => exact ⟨fun e => absurd e Bool.false_ne_true, by simpa [partT] using h⟩
      | true =>
        simp only [partT, if_true, List.append_assoc] at h
        obtain ⟨a, b⟩ := munch (h3 p (by simp)) (h4 q (by simp)) (halt_cons (by decide)) (halt_cons (by decide)) h
        exact ⟨fun _ => bytes_list.1 a, by simpa using b⟩
    obtain ⟨e, h'⟩ := h1 p (by simp) q.2 _ _ (h2 q (by simp)) (hs P x) (hs P' y) hn.2
    obtain ⟨i1, i2, i3⟩ := tl_inj nm z hz P P' x y (fun a ha => h1 a (by simp [ha])) (fun a ha => h2 a (by simp [ha])) (fun a ha => h3 a (by simp [ha])) (fun a ha => h4 a (by simp [ha])) h'
    exact ⟨by rw [List.map_cons, List.map_cons, e, i1], fun hh => by rw [List.map_cons, List.map_cons, hn.1 hh, i2 hh], i3⟩

/-- No part begins as what closes a row. -/
def Opens (l : List UInt8) : Prop := ∀ c r, l = c :: r → c ≠ 41 ∧ c ≠ 44 ∧ c ≠ 125 ∧ c ≠ 93
theorem join_inj (nm : Bool) (z : UInt8) (hz : z = 41 ∨ z = 125 ∨ z = 93) (P P' : List (ByteArray × Ty)) (x y : List UInt8) (h1 : ∀ p ∈ P, Told p.2) (h2 : ∀ p ∈ P', allOk p.2 = true) (h3 : ∀ p ∈ P, Word p.1.data.toList) (h4 : ∀ p ∈ P', Word p.1.data.toList)
    (o1 : ∀ p ∈ P, ∃ c r, partT nm p = c :: r ∧ c ≠ z) (o2 : ∀ p ∈ P', ∃ c r, partT nm p = c :: r ∧ c ≠ z)
    (h : joinC (P.map (partT nm)) ++ z :: x = joinC (P'.map (partT nm)) ++ z :: y) : P.map (·.2) = P'.map (·.2) ∧ (nm = true → P.map (·.1) = P'.map (·.1)) ∧ x = y := by
  cases P with
  | nil =>
    cases P' with
    | nil => simp [joinC] at h; exact ⟨rfl, fun _ => rfl, h⟩
    | cons q P' =>
      obtain ⟨c, r, e, hc⟩ := o2 q (by simp)
      simp [joinC, e] at h
      exact absurd h.1.symm hc
  | cons p P =>
    cases P' with
    | nil =>
      obtain ⟨c, r, e, hc⟩ := o1 p (by simp)
      simp [joinC, e] at h
      exact absurd h.1 hc
    | cons q P' =>
      refine tl_inj nm z hz (p :: P) (q :: P') x y h1 h2 h3 h4 ?_
      simp only [List.map_cons, tlC, List.append_assoc, List.cons_append, List.nil_append, List.cons.injEq, true_and]
      simpa [joinC] using h

end Go.Proofs.YtapjhmfbmkckaaaGreatDoor.M
