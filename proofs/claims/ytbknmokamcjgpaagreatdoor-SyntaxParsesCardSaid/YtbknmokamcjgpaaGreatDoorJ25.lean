/-
  Several texts in one: errors.As and errors.Is at an error that is a *Spot whose Err is a Code: the library's own text walked, over the model's entries for internal/reflectlite; and the law's own question, whether an error is a Spot at that place with that Code. · errors.Is at an error that is a *Spot whose Err is a Code, held against that Code: the library's own text walked. · The law's own question: an error that is a *Spot at a place with a Code is one. · Plain mathematics for layer 4: whether two types are alike, field by field.
-/
import Derived.Test.YtbknmokamcjgpaaGreatDoorChecked
import Derived.Test.YtbknmokamcjgpaaGreatDoorJ00
import Derived.WalkKit
import Derived.LaidEql
import Derived.Stop.Asserts
import Derived.RowKitTokens
import Derived.Lib.IfaceEq
import Derived.WalkSpells
import Derived.Laws.Pointers
/- errors.As and errors.Is at an error that is a *Spot whose Err is a Code: the library's own text walked, over the model's entries for internal/reflectlite; and the law's own question, whether an error is a Spot at that place with that Code. -/
namespace Go.Proofs.YtbknmokamcjgpaaGreatDoor
open Go.RowKit Go.Extern.Stop Go.Stop Go.Extern

theorem sp_valueOfPP (t : Addr) (w : World) : (ReflectliteValue.unpack (.iface 81 (.pointer (some t)))).run Tryz.prog w
    = .ok (.agg #[.pointer (some ⟨7, 81, none⟩), .pointer (some ⟨w.heap.size, 0, none⟩), .int .u64 150]) (w.alloc (.cells #[.pointer (some t)] 81)) := by kernel_rfl
theorem sp_typePP (a : Addr) (w : World) : (ReflectliteValue.methodAny (ReflectliteValue.valueError "reflectlite.Value.Type" 0) (fun t _ _ _ => ReflectliteType.toType t) #[.agg #[.pointer (some ⟨7, 81, none⟩), .pointer (some a), .int .u64 150]]).run Tryz.prog w
    = .ok (.iface 160 (.agg #[.pointer (some ⟨7, 81, none⟩)])) w := by kernel_rfl
theorem sp_methodKind (h : Value) (w : World) : (Go.method 371 160 (.agg #[h]) "Kind").run Tryz.prog w = .ok (232, h) w := by kernel_rfl
theorem sp_kindPP (w : World) : ((ReflectliteType.abiMethod fun t => (fun a : Nat => Value.int IntKind.u8 (a : Int)) <$> Rtype.kind t) #[.pointer (some ⟨7, 81, none⟩)]).run Tryz.prog w = .ok (.int .u8 22) w := by kernel_rfl
theorem sp_kindP (w : World) : ((ReflectliteType.abiMethod fun t => (fun a : Nat => Value.int IntKind.u8 (a : Int)) <$> Rtype.kind t) #[.pointer (some ⟨7, 63, none⟩)]).run Tryz.prog w = .ok (.int .u8 22) w := by kernel_rfl

theorem rl_method (z : Sem Value) (f : TypeId → Addr → Nat → Nat → Sem Value) (v : Value) :
    ReflectliteValue.method z f #[v] = (do match ← ReflectliteValue.parts v with | none => z | some (t, a, fl) => f t a fl (fl % 32)) := rfl
theorem sp_partsPP (a : Addr) (w : World) : (ReflectliteValue.parts (.agg #[.pointer (some ⟨7, 81, none⟩), .pointer (some a), .int .u64 150])).run Tryz.prog w = .ok (some (81, a, 150)) w := by kernel_rfl
theorem sp_isNilPP (a p : Addr) (W : World) (ha : W.cell? a = some (.pointer (some p))) :
    (ReflectliteValue.method (ReflectliteValue.valueError "reflectlite.Value.IsNil" 0) ReflectliteValue.isNil #[.agg #[.pointer (some ⟨7, 81, none⟩), .pointer (some a), .int .u64 150]]).run Tryz.prog W = .ok (.bool false) W := by
  rw [rl_method]
  simp only [Sem.run_bind, sp_partsPP, Result.andThen]
  simp [ReflectliteValue.isNil, loadVar, isAgg, underlying, Tryz.underlying81, ha, Result.andThen]

theorem sp_methodElem (h : Value) (w : World) : (Go.method 371 160 (.agg #[h]) "Elem").run Tryz.prog w = .ok (245, .agg #[h]) w := by kernel_rfl
theorem sp_methodImplements (h : Value) (w : World) : (Go.method 371 160 (.agg #[h]) "Implements").run Tryz.prog w = .ok (246, .agg #[h]) w := by kernel_rfl
theorem sp_methodAssignableTo (h : Value) (w : World) : (Go.method 371 160 (.agg #[h]) "AssignableTo").run Tryz.prog w = .ok (243, .agg #[h]) w := by kernel_rfl
theorem sp_elemPP (w : World) : (ReflectliteType.method ReflectliteType.elem #[.agg #[.pointer (some ⟨7, 81, none⟩)]]).run Tryz.prog w = .ok (.iface 160 (.agg #[.pointer (some ⟨7, 63, none⟩)])) w := by kernel_rfl
theorem sp_implements (w : World) : (ReflectliteType.relation "Implements" ReflectliteType.implements_ #[.agg #[.pointer (some ⟨7, 63, none⟩)], .iface 160 (.agg #[.pointer (some ⟨7, 28, none⟩)])]).run Tryz.prog w = .ok (.bool true) w := by kernel_rfl
theorem sp_typeOfP (v : Value) (w : World) : (ReflectliteType.typeOf #[.iface 63 v]).run Tryz.prog w = .ok (.iface 160 (.agg #[.pointer (some ⟨7, 63, none⟩)])) w := by kernel_rfl
theorem sp_assignable (w : World) : (ReflectliteType.relation "AssignableTo" ReflectliteType.assignableTo #[.agg #[.pointer (some ⟨7, 63, none⟩)], .iface 160 (.agg #[.pointer (some ⟨7, 63, none⟩)])]).run Tryz.prog w = .ok (.bool true) w := by kernel_rfl
theorem sp_valueOfP (e : Addr) (w : World) : (ReflectliteValue.unpack (.iface 63 (.pointer (some e)))).run Tryz.prog w
    = .ok (.agg #[.pointer (some ⟨7, 63, none⟩), .pointer (some ⟨w.heap.size, 0, none⟩), .int .u64 150]) (w.alloc (.cells #[.pointer (some e)] 63)) := by kernel_rfl
theorem sp_elemOfPP (w : World) : (Rtype.elem? 81).run Tryz.prog w = .ok (some 63) w := by kernel_rfl
theorem sp_mkP (p : Addr) (w : World) : (ReflectliteValue.mk 63 p ReflectliteValue.flagAddr).run Tryz.prog w = .ok (.agg #[.pointer (some ⟨7, 63, none⟩), .pointer (some p), .int .u64 406]) w := by kernel_rfl
theorem sp_elemVPP (a p : Addr) (W : World) (ha : W.cell? a = some (.pointer (some p))) :
    (ReflectliteValue.method (ReflectliteValue.valueError "reflectlite.Value.Elem" 0) ReflectliteValue.elem #[.agg #[.pointer (some ⟨7, 81, none⟩), .pointer (some a), .int .u64 150]]).run Tryz.prog W
      = .ok (.agg #[.pointer (some ⟨7, 63, none⟩), .pointer (some p), .int .u64 406]) W := by
  rw [rl_method]
  simp only [Sem.run_bind, sp_partsPP, Result.andThen]
  simp [ReflectliteValue.elem, loadVar, isAgg, underlying, Tryz.underlying81, ha, Result.andThen, sp_elemOfPP, sp_mkP]
theorem rl_set (v x : Value) : ReflectliteValue.set #[v, x] = (do
    let (some (dst, a, fl), some (src, b, _)) := (← ReflectliteValue.parts v, ← ReflectliteValue.parts x)
      | unsupported (.noEntry "extern/(internal/reflectlite.Value).Set.zeroValue")
    if fl / ReflectliteValue.flagAddr % 2 == 0 then unsupported (.noEntry "extern/(internal/reflectlite.Value).Set.unaddressable")
    let val ← loadVar src b
    if ← Rtype.directlyAssignable dst src then storeVar dst a val
    else if ← Rtype.implements dst src then
      if (← Rtype.kind src) == 20 then
        match val with
        | .nilIface => unsupported (.noEntry "extern/reflectlite: a nil value of one interface type handed on as a value of another")
        | _ => storeVar dst a val
      else storeVar dst a (.iface src val)
    else panicString ("reflectlite.Set: value of type " ++ (← Rtype.spelt src) ++ " is not assignable to type " ++ (← Rtype.spelt dst))
    pure (.tuple #[])) := rfl
theorem sp_partsA (a : Addr) (w : World) : (ReflectliteValue.parts (.agg #[.pointer (some ⟨7, 63, none⟩), .pointer (some a), .int .u64 406])).run Tryz.prog w = .ok (some (63, a, 406)) w := by kernel_rfl
theorem sp_partsB (a : Addr) (w : World) : (ReflectliteValue.parts (.agg #[.pointer (some ⟨7, 63, none⟩), .pointer (some a), .int .u64 150])).run Tryz.prog w = .ok (some (63, a, 150)) w := by kernel_rfl
theorem sp_direct (w : World) : (Rtype.directlyAssignable 63 63).run Tryz.prog w = .ok true w := by kernel_rfl
theorem sp_set (ta b e : Addr) (old : Value) (W : World) (hb : W.cell? b = some (.pointer (some e))) (ht : W.cell? ta = some old) (hf : W.frozen? ta = false) :
    (ReflectliteValue.set #[.agg #[.pointer (some ⟨7, 63, none⟩), .pointer (some ta), .int .u64 406], .agg #[.pointer (some ⟨7, 63, none⟩), .pointer (some b), .int .u64 150]]).run Tryz.prog W
      = .ok (.tuple #[]) (W.setCell ta (.pointer (some e))) := by
  rw [rl_set]
  simp only [Sem.run_bind, sp_partsA, sp_partsB, Result.andThen]
  simp [ReflectliteValue.flagAddr, loadVar, isAgg, underlying, Tryz.underlying63, hb, Result.andThen, sp_direct, storeVar, Value.cells, storeCells, Addr.add]
  rw [run_store Tryz.prog W ta _ _ (by rfl)]
  simp [ht, hf]

/-- The library's variable errors.errorType holds the handle of 'error'. -/
def ErrT (w : World) : Prop := w.cell? ⟨0, 0, none⟩ = some (.iface 160 (.agg #[.pointer (some ⟨7, 28, none⟩)]))
theorem ErrT.lt {w : World} (h : ErrT w) : 0 < w.heap.size := by
  rcases Nat.lt_or_ge 0 w.heap.size with h0 | h0
  · exact h0
  · unfold ErrT at h
    simp [World.cell?, Array.getElem?_eq_none h0] at h
theorem ErrT.on {w w' : World} (h : ErrT w) (hb : Below w.heap.size w w') : ErrT w' := (hb.cell (p := ⟨0, 0, none⟩) h.lt).trans h

set_option maxHeartbeats 4000000 in
theorem as_spot (e t : Addr) (old : Value) (w : World) (hg : ErrT w) (ht0 : w.cell? t = some old) (hf0 : w.frozen? t = false) :
    Calls Tryz.prog 34 #[.iface 63 (.pointer (some e)), .iface 81 (.pointer (some t))] w fun ev w' => ev = .returned (.bool true) ∧ w' = ((((w.alloc (.cells #[.pointer (some t)] 81)).alloc (.cells #[.pointer (some ⟨7, 81, none⟩), .pointer (some ⟨w.heap.size, 0, none⟩), .int .u64 150] 130)).alloc (.cells #[.pointer (some ⟨7, 81, none⟩), .pointer (some ⟨w.heap.size, 0, none⟩), .int .u64 150] 130)).alloc (.cells #[.pointer (some e)] 63)).setCell t (.pointer (some e)) := by
  have h6 := @run_callFunc_extern Tryz.prog 82 _ (fun args => ReflectliteValue.unpack (args.getD 0 (.tuple #[]))) Tryz.func82 (by kernel_rfl) (by kernel_rfl) (by kernel_rfl) (by kernel_rfl)
  have h7 := @run_callFunc_extern Tryz.prog 83 _ (ReflectliteValue.methodAny (ReflectliteValue.valueError "reflectlite.Value.Type" 0) (fun t _ _ _ => ReflectliteType.toType t)) Tryz.func83 (by kernel_rfl) (by kernel_rfl) (by kernel_rfl) (by kernel_rfl)
  have h8 := @run_callFunc_extern Tryz.prog 84 _ (ReflectliteValue.method (ReflectliteValue.valueError "reflectlite.Value.IsNil" 0) ReflectliteValue.isNil) Tryz.func84 (by kernel_rfl) (by kernel_rfl) (by kernel_rfl) (by kernel_rfl)
  have h27 := @run_callFunc_extern Tryz.prog 232 _ (ReflectliteType.abiMethod fun t => do pure (.int .u8 (← Rtype.kind t))) Tryz.func232 (by kernel_rfl) (by kernel_rfl) (by kernel_rfl) (by kernel_rfl)
  have h37 := @run_callFunc_extern Tryz.prog 245 _ (ReflectliteType.method ReflectliteType.elem) Tryz.func245 (by kernel_rfl) (by kernel_rfl) (by kernel_rfl) (by kernel_rfl)
  have h38 := @run_callFunc_extern Tryz.prog 246 _ (ReflectliteType.relation "Implements" ReflectliteType.implements_) Tryz.func246 (by kernel_rfl) (by kernel_rfl) (by kernel_rfl) (by kernel_rfl)
  have h10 := @run_callFunc_extern Tryz.prog 86 _ ReflectliteType.typeOf Tryz.func86 (by kernel_rfl) (by kernel_rfl) (by kernel_rfl) (by kernel_rfl)
  have h35 := @run_callFunc_extern Tryz.prog 243 _ (ReflectliteType.relation "AssignableTo" ReflectliteType.assignableTo) Tryz.func243 (by kernel_rfl) (by kernel_rfl) (by kernel_rfl) (by kernel_rfl)
  have h11 := @run_callFunc_extern Tryz.prog 134 _ (ReflectliteValue.method (ReflectliteValue.valueError "reflectlite.Value.Elem" 0) ReflectliteValue.elem) Tryz.func134 (by kernel_rfl) (by kernel_rfl) (by kernel_rfl) (by kernel_rfl)
  have h12 := @run_callFunc_extern Tryz.prog 135 _ ReflectliteValue.set Tryz.func135 (by kernel_rfl) (by kernel_rfl) (by kernel_rfl) (by kernel_rfl)
  have tO := sp_typeOfP
  have mA := sp_methodAssignableTo
  have a25 := sp_assignable
  have v25 := sp_valueOfP
  have f6 := sp_valueOfPP
  have f7 := sp_typePP
  have mK := sp_methodKind
  have mE := sp_methodElem
  have mI := sp_methodImplements
  have k27 := sp_kindPP
  have k25 := sp_kindP
  have e27 := sp_elemPP
  have i25 := sp_implements
  have n8 := sp_isNilPP ⟨w.heap.size, 0, none⟩ t ((w.alloc (.cells #[.pointer (some t)] 81)).alloc (.cells #[.pointer (some ⟨7, 81, none⟩), .pointer (some ⟨w.heap.size, 0, none⟩), .int .u64 150] 130)) (by simp)
  have hlt : 0 < w.heap.size := hg.lt
  have hg2 : ((w.alloc (.cells #[.pointer (some t)] 81)).alloc (.cells #[.pointer (some ⟨7, 81, none⟩), .pointer (some ⟨w.heap.size, 0, none⟩), .int .u64 150] 130)).cell? ⟨0, 0, none⟩ = some (.iface 160 (.agg #[.pointer (some ⟨7, 28, none⟩)])) := by
    rw [World.cell?_alloc_lt _ _ ⟨0, 0, none⟩ (by simp <;> omega), World.cell?_alloc_lt _ _ ⟨0, 0, none⟩ hlt]; exact hg
  have htl : t.block < w.heap.size := by
    rcases Nat.lt_or_ge t.block w.heap.size with h | h
    · exact h
    · simp [World.cell?, Array.getElem?_eq_none h] at ht0
  have el := sp_elemVPP ⟨w.heap.size, 0, none⟩ t (((w.alloc (.cells #[.pointer (some t)] 81)).alloc (.cells #[.pointer (some ⟨7, 81, none⟩), .pointer (some ⟨w.heap.size, 0, none⟩), .int .u64 150] 130)).alloc (.cells #[.pointer (some ⟨7, 81, none⟩), .pointer (some ⟨w.heap.size, 0, none⟩), .int .u64 150] 130)) (by rw [World.cell?_alloc_lt _ _ ⟨w.heap.size, 0, none⟩ (by simp; omega)]; simp)
  have st := sp_set t ⟨w.heap.size + 1 + 1 + 1, 0, none⟩ e old ((((w.alloc (.cells #[.pointer (some t)] 81)).alloc (.cells #[.pointer (some ⟨7, 81, none⟩), .pointer (some ⟨w.heap.size, 0, none⟩), .int .u64 150] 130)).alloc (.cells #[.pointer (some ⟨7, 81, none⟩), .pointer (some ⟨w.heap.size, 0, none⟩), .int .u64 150] 130)).alloc (.cells #[.pointer (some e)] 63))
    (by rw [World.cell?_alloc_at _ _ _ _ (by simp)]; rfl)
    (by rw [World.cell?_alloc_lt _ _ t (by simp; omega), World.cell?_alloc_lt _ _ t (by simp; omega), World.cell?_alloc_lt _ _ t (by simp; omega), World.cell?_alloc_lt _ _ t htl]; exact ht0)
    (by rw [World.frozen?_alloc_old _ _ t (by simp; omega), World.frozen?_alloc_old _ _ t (by simp; omega), World.frozen?_alloc_old _ _ t (by simp; omega), World.frozen?_alloc_old _ _ t (Nat.ne_of_lt htl)]; exact hf0)
  go_enter Tryz.func34, Tryz.ntmps34
  go_wp2
  refine wp_loop_rounds 1 ?_
  rw [rounds_succ]
  go_wp2
  go_ret
  exact ⟨rfl, rfl⟩

end Go.Proofs.YtbknmokamcjgpaaGreatDoor

/- errors.Is at an error that is a *Spot whose Err is a Code, held against that Code: the library's own text walked. -/
namespace Go.Proofs.YtbknmokamcjgpaaGreatDoor
open Go.RowKit Go.Extern.Stop Go.Stop Go.Extern

theorem sp_typeOfC (v : Value) (w : World) : (ReflectliteType.typeOf #[.iface 31 v]).run Tryz.prog w = .ok (.iface 160 (.agg #[.pointer (some ⟨7, 31, none⟩)])) w := by kernel_rfl
theorem sp_methodComparable (h : Value) (w : World) : (Go.method 371 160 (.agg #[h]) "Comparable").run Tryz.prog w = .ok (244, .agg #[h]) w := by kernel_rfl
theorem sp_comparableC (w : World) : ((ReflectliteType.method fun t => do Rtype.noPackHeld "Comparable" t; (fun a => Value.bool a.comparable) <$> typeInfo t) #[.agg #[.pointer (some ⟨7, 31, none⟩)]]).run Tryz.prog w = .ok (.bool true) w := by kernel_rfl
theorem sp_comp : (Tryz.prog.info? 31).map (·.comparable) = some true := by kernel_rfl
theorem sp_noIs (v : Value) (xT : TypeId) (w : World) : (Instr.typeAssert (.iface 63 v) xT 171 true).run Tryz.prog w = .ok (.tuple #[.nilIface, .bool false]) w := run_typeAssert_lacksB Tryz.underlying171 (by kernel_rfl) (by kernel_rfl) v xT w
theorem sp_hasUnwrap (v : Value) (xT : TypeId) (w : World) : (Instr.typeAssert (.iface 63 v) xT 167 true).run Tryz.prog w = .ok (.tuple #[.iface 63 v, .bool true]) w := run_typeAssert_hasB Tryz.underlying167 (by kernel_rfl) v xT w
theorem sp_methodUnwrap (v : Value) (w : World) : (Go.method 371 63 v "Unwrap").run Tryz.prog w = .ok (237, v) w := by kernel_rfl

/-- errors.Is(e, c), e a *Spot whose Err is the Code c. -/
theorem is_spot (b : Nat) (c : Int) (w : World) (h1 : w.cell? ⟨b, 1, none⟩ = some (.iface 31 (.int .i64 c))) :
    Calls Tryz.prog 35 #[.iface 63 (.pointer (some ⟨b, 0, none⟩)), .iface 31 (.int .i64 c)] w fun e w' => e = .returned (.bool true) ∧ w' = w := by
  have h8 := @run_callFunc_extern Tryz.prog 86 _ ReflectliteType.typeOf Tryz.func86 (by kernel_rfl) (by kernel_rfl) (by kernel_rfl) (by kernel_rfl)
  have h32 := @run_callFunc_extern Tryz.prog 244 _ (ReflectliteType.method fun t => do Rtype.noPackHeld "Comparable" t; pure (.bool (← typeInfo t).comparable)) Tryz.func244 (by kernel_rfl) (by kernel_rfl) (by kernel_rfl) (by kernel_rfl)
  have tT := sp_typeOfC
  have cT := sp_comparableC
  have mR := sp_methodComparable
  have nE := sp_noIs
  have uW := sp_hasUnwrap
  have mU := sp_methodUnwrap
  have heq := Lib.run_eql_iface_int (P := Tryz.prog) (k := .i64) w c c Tryz.underlying28 sp_comp Tryz.underlying31
  have hty := run_eql_iface_types (P := Tryz.prog) 63 31 (.pointer (some ⟨b, 0, none⟩)) (.int .i64 c) Tryz.underlying28 (by decide) w
  go_enter Tryz.func35, Tryz.ntmps35
  go_wp2
  refine wp_loop_rounds 2 ?_
  rw [rounds_succ]
  go_wp2
  rw [rounds_succ]
  go_wp2
  go_ret
  exact ⟨rfl, rfl⟩

end Go.Proofs.YtbknmokamcjgpaaGreatDoor

/- The law's own question: an error that is a *Spot at a place with a Code is one. -/
namespace Go.Proofs.YtbknmokamcjgpaaGreatDoor
open Go.RowKit

theorem sp_compP : (Tryz.prog.info? 63).map (·.comparable) = some true := by kernel_rfl
theorem sp_sizeS : (Tryz.prog.info? 65).map (·.size) = some 2 := by kernel_rfl
theorem sp_eqSame (a : Addr) (w : World) : (binOp .eql 28 (.iface 63 (.pointer (some a))) (.iface 63 (.pointer (some a)))).run Tryz.prog w = .ok (.bool true) w := by
  obtain ⟨i, hi, hcmp⟩ := Option.map_eq_some_iff.1 sp_compP
  obtain ⟨j, hj, -⟩ := Option.map_eq_some_iff.1 sp_sizeS
  exact run_eql_iface_ptr_same (P := Tryz.prog) w a Tryz.underlying28 Tryz.underlying63 hi hcmp hj
theorem sp_neSame (a : Addr) (w : World) : (binOp .neq 28 (.iface 63 (.pointer (some a))) (.iface 63 (.pointer (some a)))).run Tryz.prog w = .ok (.bool false) w := by
  have h := sp_eqSame a w
  simp only [binOp] at h ⊢
  cases he : (Op.equal 28 (.iface 63 (.pointer (some a))) (.iface 63 (.pointer (some a)))).run Tryz.prog w <;> simp_all [Result.andThen]
theorem sp_eqCode (a b : Int) (w : World) : (binOp .eql 28 (.iface 31 (.int .i64 a)) (.iface 31 (.int .i64 b))).run Tryz.prog w = .ok (.bool (a == b)) w :=
  Lib.run_eql_iface_int (P := Tryz.prog) (k := .i64) w a b Tryz.underlying28 sp_comp Tryz.underlying31

theorem cell_on {w W : World} {b o : Nat} {v : Value} (hb : Below w.heap.size w W) (h : b < w.heap.size) (h1 : w.cell? ⟨b, o, none⟩ = some v) : W.cell? ⟨b, o, none⟩ = some v := (hb.cell (p := ⟨b, o, none⟩) h).trans h1

/-- errors.As in one word: the target holds the Spot, all below is as it was. -/
theorem as_below (e : Addr) (w W : World) (old : Value) (hg : ErrT W) (hb : Below w.heap.size w W) (ht : W.cell? ⟨w.heap.size, 0, none⟩ = some old) (hf : W.frozen? ⟨w.heap.size, 0, none⟩ = false) :
    Calls Tryz.prog 34 #[.iface 63 (.pointer (some e)), .iface 81 (.pointer (some ⟨w.heap.size, 0, none⟩))] W fun ev w' => ev = .returned (.bool true) ∧ w'.cell? ⟨w.heap.size, 0, none⟩ = some (.pointer (some e)) ∧ Below w.heap.size w w' := by
  have hlt : w.heap.size < W.heap.size := by
    rcases Nat.lt_or_ge w.heap.size W.heap.size with h | h
    · exact h
    · simp [World.cell?, Array.getElem?_eq_none h] at ht
  refine (as_spot e _ old W hg ht hf).mono ?_
  rintro ev w' ⟨rfl, rfl⟩
  refine ⟨rfl, ?_, ?_⟩
  · exact World.cell?_setCell_same' _ _ _ (by
      rw [World.cell?_alloc_lt _ _ _ (by simp; omega), World.cell?_alloc_lt _ _ _ (by simp; omega), World.cell?_alloc_lt _ _ _ (by simp; omega), World.cell?_alloc_lt _ _ _ hlt, ht]; rfl)
  · repeat (first | exact hb | with_reducible refine below_new ?_ _ | with_reducible refine below_put ?_ (by simp <;> omega) _)

set_option maxHeartbeats 2000000 in
theorem isSpot_any (b : Nat) (p c : Int) (w : World) (hg : ErrT w) (hb : b < w.heap.size) (h0 : w.cell? ⟨b, 0, none⟩ = some (.int .i64 p)) (h1 : w.cell? ⟨b, 1, none⟩ = some (.iface 31 (.int .i64 c))) :
    Calls Tryz.prog 15 #[.iface 63 (.pointer (some ⟨b, 0, none⟩)), .int .i64 p, .int .i64 c] w fun e w' => e = .returned (.bool true) ∧ Below w.heap.size w w' := by
  have HB := Lib.hid hb
  have H0 := Lib.hid h0
  have H1 := Lib.hid h1
  clear hb h0 h1
  have hne := sp_neSame ⟨b, 0, none⟩
  have heq := sp_eqCode c c
  go_enter Tryz.func15, Tryz.ntmps15
  go_wp2_with fail
  refine (as_below _ w _ (.pointer none) (hg.on (below_new (Below.refl _ _) _)) (below_new (Below.refl _ _) _) (by go_simp) (by go_simp)).mono ?_; rintro e w1 ⟨rfl, ct, hb1⟩
  have c0 := cell_on hb1 HB.out H0.out
  have c1 := cell_on hb1 HB.out H1.out
  go_wp2_with fail
  refine (is_spot _ c _ c1).mono ?_; rintro e w' ⟨rfl, rfl⟩
  go_wp2
  go_ret
  exact ⟨rfl, hb1⟩

end Go.Proofs.YtbknmokamcjgpaaGreatDoor

/- Plain mathematics for layer 4: whether two types are alike, field by field. -/
namespace Go.Proofs.YtbknmokamcjgpaaGreatDoor.M

-- the same, field by field
mutual
def sameT : Ty → Ty → Bool
  | .mk k p m d n ns ss, .mk k' p' m' d' n' ns' ss' => decide (k = k') && decide (p = p') && decide (m = m') && decide (d = d') && decide (n = n') && decide (ns = ns') && sameL ss ss'
def sameL : List Ty → List Ty → Bool
  | [], [] => true
  | [], _ :: _ => false
  | _ :: _, [] => false
  | a :: r, b :: q => sameT a b && sameL r q
end
mutual
theorem sameT_iff : ∀ a b : Ty, sameT a b = true ↔ a = b
  | .mk k p m d n ns ss, .mk k' p' m' d' n' ns' ss' => by
    have := sameL_iff ss ss'
    unfold sameT
    simp only [Bool.and_eq_true, decide_eq_true_eq, this, Ty.mk.injEq]
    simp only [and_assoc]
theorem sameL_iff : ∀ a b : List Ty, sameL a b = true ↔ a = b
  | [], [] => by simp [sameL]
  | [], _ :: _ => by simp [sameL]
  | _ :: _, [] => by simp [sameL]
  | a :: r, b :: q => by
    have h1 := sameT_iff a b
    have h2 := sameL_iff r q
    unfold sameL
    simp only [Bool.and_eq_true, h1, h2, List.cons.injEq]
end
theorem sameT_no {a b : Ty} (h : a ≠ b) : sameT a b = false := by
  rw [Bool.eq_false_iff, ne_eq, sameT_iff]; exact h
theorem ty_ext {a b : Ty} (h1 : a.kind = b.kind) (h2 : a.pkg = b.pkg) (h3 : a.major = b.major) (h4 : a.mod = b.mod) (h5 : a.name = b.name) (h6 : a.names = b.names) (h7 : a.subs = b.subs) : a = b := by
  cases a; cases b
  simp only [Ty.kind, Ty.pkg, Ty.major, Ty.mod, Ty.name, Ty.names, Ty.subs] at *
  subst h1 h2 h3 h4 h5 h6 h7
  rfl
theorem bytes_list {a b : ByteArray} : a.data.toList = b.data.toList ↔ a = b := by
  constructor
  · intro h
    cases a; cases b; simp at h; simpa using h
  · rintro rfl; rfl
theorem list_ext' {α : Type} {a b : List α} (hl : a.length = b.length) (h : ∀ (i : Nat) (x y : α), a[i]? = some x → b[i]? = some y → x = y) : a = b := by
  apply List.ext_getElem? 
  intro i
  rcases Nat.lt_or_ge i a.length with hi | hi
  · rw [List.getElem?_eq_getElem hi, List.getElem?_eq_getElem (by omega)]
    exact congrArg some (h i _ _ (List.getElem?_eq_getElem hi) (List.getElem?_eq_getElem (by omega)))
  · rw [List.getElem?_eq_none hi, List.getElem?_eq_none (by omega)]

end Go.Proofs.YtbknmokamcjgpaaGreatDoor.M
