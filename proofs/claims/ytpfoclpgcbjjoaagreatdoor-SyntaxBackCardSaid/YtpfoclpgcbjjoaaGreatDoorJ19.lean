/-
  Several texts in one: errors.As and errors.Is at an error that is a *Spot whose Err is a Code: the library's own text walked, over the model's entries for internal/reflectlite; and the law's own question, whether an error is a Spot at that place with that Code. · errors.Is at an error that is a *Spot whose Err is a Code, held against that Code: the library's own text walked. · The law's own question: an error that is a *Spot at a place with a Code is one. · The walk of ExprParses: whatever text is handed in. · The walk of SyntaxParses: whatever text is handed in. · A module handed in: what its cells read as. · Walks of the reference's gone-through types: how many, how deep, plain.
-/
import Derived.Test.YtpfoclpgcbjjoaaGreatDoorChecked
import Derived.Test.YtpfoclpgcbjjoaaGreatDoorJ00
import Derived.WalkKit
import Derived.LaidEql
import Derived.Stop.Asserts
import Derived.RowKitTokens
import Derived.Lib.IfaceEq
import Derived.WalkSpells
import Derived.Laws.Pointers
import Derived.Test.YtpfoclpgcbjjoaaGreatDoorJ14
import Derived.Test.YtpfoclpgcbjjoaaGreatDoorJ18
import Derived.Test.YtpfoclpgcbjjoaaGreatDoorJ15
import Derived.ProofKit
import Derived.OpenShut
import Derived.Lib.SmallJoins
import Derived.Deep.Slices
import Derived.Deep.Strs
import Derived.DataReads
import Derived.WideShapes
/- errors.As and errors.Is at an error that is a *Spot whose Err is a Code: the library's own text walked, over the model's entries for internal/reflectlite; and the law's own question, whether an error is a Spot at that place with that Code. -/
namespace Go.Proofs.YtpfoclpgcbjjoaaGreatDoor
open Go.RowKit Go.Extern.Stop Go.Stop Go.Extern

theorem sp_valueOfPP (t : Addr) (w : World) : (ReflectliteValue.unpack (.iface 111 (.pointer (some t)))).run Tryz.prog w
    = .ok (.agg #[.pointer (some ⟨7, 111, none⟩), .pointer (some ⟨w.heap.size, 0, none⟩), .int .u64 150]) (w.alloc (.cells #[.pointer (some t)] 111)) := by kernel_rfl
theorem sp_typePP (a : Addr) (w : World) : (ReflectliteValue.methodAny (ReflectliteValue.valueError "reflectlite.Value.Type" 0) (fun t _ _ _ => ReflectliteType.toType t) #[.agg #[.pointer (some ⟨7, 111, none⟩), .pointer (some a), .int .u64 150]]).run Tryz.prog w
    = .ok (.iface 182 (.agg #[.pointer (some ⟨7, 111, none⟩)])) w := by kernel_rfl
theorem sp_methodKind (h : Value) (w : World) : (Go.method 392 182 (.agg #[h]) "Kind").run Tryz.prog w = .ok (248, h) w := by kernel_rfl
theorem sp_kindPP (w : World) : ((ReflectliteType.abiMethod fun t => (fun a : Nat => Value.int IntKind.u8 (a : Int)) <$> Rtype.kind t) #[.pointer (some ⟨7, 111, none⟩)]).run Tryz.prog w = .ok (.int .u8 22) w := by kernel_rfl
theorem sp_kindP (w : World) : ((ReflectliteType.abiMethod fun t => (fun a : Nat => Value.int IntKind.u8 (a : Int)) <$> Rtype.kind t) #[.pointer (some ⟨7, 99, none⟩)]).run Tryz.prog w = .ok (.int .u8 22) w := by kernel_rfl

theorem rl_method (z : Sem Value) (f : TypeId → Addr → Nat → Nat → Sem Value) (v : Value) :
    ReflectliteValue.method z f #[v] = (do match ← ReflectliteValue.parts v with | none => z | some (t, a, fl) => f t a fl (fl % 32)) := rfl
theorem sp_partsPP (a : Addr) (w : World) : (ReflectliteValue.parts (.agg #[.pointer (some ⟨7, 111, none⟩), .pointer (some a), .int .u64 150])).run Tryz.prog w = .ok (some (111, a, 150)) w := by kernel_rfl
theorem sp_isNilPP (a p : Addr) (W : World) (ha : W.cell? a = some (.pointer (some p))) :
    (ReflectliteValue.method (ReflectliteValue.valueError "reflectlite.Value.IsNil" 0) ReflectliteValue.isNil #[.agg #[.pointer (some ⟨7, 111, none⟩), .pointer (some a), .int .u64 150]]).run Tryz.prog W = .ok (.bool false) W := by
  rw [rl_method]
  simp only [Sem.run_bind, sp_partsPP, Result.andThen]
  simp [ReflectliteValue.isNil, loadVar, isAgg, underlying, Tryz.underlying111, ha, Result.andThen]

theorem sp_methodElem (h : Value) (w : World) : (Go.method 392 182 (.agg #[h]) "Elem").run Tryz.prog w = .ok (261, .agg #[h]) w := by kernel_rfl
theorem sp_methodImplements (h : Value) (w : World) : (Go.method 392 182 (.agg #[h]) "Implements").run Tryz.prog w = .ok (262, .agg #[h]) w := by kernel_rfl
theorem sp_methodAssignableTo (h : Value) (w : World) : (Go.method 392 182 (.agg #[h]) "AssignableTo").run Tryz.prog w = .ok (259, .agg #[h]) w := by kernel_rfl
theorem sp_elemPP (w : World) : (ReflectliteType.method ReflectliteType.elem #[.agg #[.pointer (some ⟨7, 111, none⟩)]]).run Tryz.prog w = .ok (.iface 182 (.agg #[.pointer (some ⟨7, 99, none⟩)])) w := by kernel_rfl
theorem sp_implements (w : World) : (ReflectliteType.relation "Implements" ReflectliteType.implements_ #[.agg #[.pointer (some ⟨7, 99, none⟩)], .iface 182 (.agg #[.pointer (some ⟨7, 29, none⟩)])]).run Tryz.prog w = .ok (.bool true) w := by kernel_rfl
theorem sp_typeOfP (v : Value) (w : World) : (ReflectliteType.typeOf #[.iface 99 v]).run Tryz.prog w = .ok (.iface 182 (.agg #[.pointer (some ⟨7, 99, none⟩)])) w := by kernel_rfl
theorem sp_assignable (w : World) : (ReflectliteType.relation "AssignableTo" ReflectliteType.assignableTo #[.agg #[.pointer (some ⟨7, 99, none⟩)], .iface 182 (.agg #[.pointer (some ⟨7, 99, none⟩)])]).run Tryz.prog w = .ok (.bool true) w := by kernel_rfl
theorem sp_valueOfP (e : Addr) (w : World) : (ReflectliteValue.unpack (.iface 99 (.pointer (some e)))).run Tryz.prog w
    = .ok (.agg #[.pointer (some ⟨7, 99, none⟩), .pointer (some ⟨w.heap.size, 0, none⟩), .int .u64 150]) (w.alloc (.cells #[.pointer (some e)] 99)) := by kernel_rfl
theorem sp_elemOfPP (w : World) : (Rtype.elem? 111).run Tryz.prog w = .ok (some 99) w := by kernel_rfl
theorem sp_mkP (p : Addr) (w : World) : (ReflectliteValue.mk 99 p ReflectliteValue.flagAddr).run Tryz.prog w = .ok (.agg #[.pointer (some ⟨7, 99, none⟩), .pointer (some p), .int .u64 406]) w := by kernel_rfl
theorem sp_elemVPP (a p : Addr) (W : World) (ha : W.cell? a = some (.pointer (some p))) :
    (ReflectliteValue.method (ReflectliteValue.valueError "reflectlite.Value.Elem" 0) ReflectliteValue.elem #[.agg #[.pointer (some ⟨7, 111, none⟩), .pointer (some a), .int .u64 150]]).run Tryz.prog W
      = .ok (.agg #[.pointer (some ⟨7, 99, none⟩), .pointer (some p), .int .u64 406]) W := by
  rw [rl_method]
  simp only [Sem.run_bind, sp_partsPP, Result.andThen]
  simp [ReflectliteValue.elem, loadVar, isAgg, underlying, Tryz.underlying111, ha, Result.andThen, sp_elemOfPP, sp_mkP]
theorem rl_set (v x : Value) : ReflectliteValue.set #[v, x] = (do
    let (some (dst, a, fl), some (src, b, _)) := (← ReflectliteValue.parts v, ← ReflectliteValue.parts x)
      | unsupported (.noEntry "extern/(internal/reflectlite.Value).Set.zeroValue")
    if fl / ReflectliteValue.flagAddr % 2 == 0 then unsupported (.noEntry "extern/(internal/reflectlite.Value).Set.unaddressable")
    let val ← loadVar src b
    if ← Rtype.directlyAssignable dst src then storeVar dst a val
    else if ← Rtype.implements dst src then
      if (← Rtype.kind src) == 20 then
        match val with
        | .nilIface => unsupported (.noEntry "extern/reflectlite: a nil value of one interface type handed on as a value of another")
        | _ => storeVar dst a val
      else storeVar dst a (.iface src val)
    else panicString ("reflectlite.Set: value of type " ++ (← Rtype.spelt src) ++ " is not assignable to type " ++ (← Rtype.spelt dst))
    pure (.tuple #[])) := rfl
theorem sp_partsA (a : Addr) (w : World) : (ReflectliteValue.parts (.agg #[.pointer (some ⟨7, 99, none⟩), .pointer (some a), .int .u64 406])).run Tryz.prog w = .ok (some (99, a, 406)) w := by kernel_rfl
theorem sp_partsB (a : Addr) (w : World) : (ReflectliteValue.parts (.agg #[.pointer (some ⟨7, 99, none⟩), .pointer (some a), .int .u64 150])).run Tryz.prog w = .ok (some (99, a, 150)) w := by kernel_rfl
theorem sp_direct (w : World) : (Rtype.directlyAssignable 99 99).run Tryz.prog w = .ok true w := by kernel_rfl
theorem sp_set (ta b e : Addr) (old : Value) (W : World) (hb : W.cell? b = some (.pointer (some e))) (ht : W.cell? ta = some old) (hf : W.frozen? ta = false) :
    (ReflectliteValue.set #[.agg #[.pointer (some ⟨7, 99, none⟩), .pointer (some ta), .int .u64 406], .agg #[.pointer (some ⟨7, 99, none⟩), .pointer (some b), .int .u64 150]]).run Tryz.prog W
      = .ok (.tuple #[]) (W.setCell ta (.pointer (some e))) := by
  rw [rl_set]
  simp only [Sem.run_bind, sp_partsA, sp_partsB, Result.andThen]
  simp [ReflectliteValue.flagAddr, loadVar, isAgg, underlying, Tryz.underlying99, hb, Result.andThen, sp_direct, storeVar, Value.cells, storeCells, Addr.add]
  rw [run_store Tryz.prog W ta _ _ (by rfl)]
  simp [ht, hf]

/-- The library's variable errors.errorType holds the handle of 'error'. -/
def ErrT (w : World) : Prop := w.cell? ⟨0, 0, none⟩ = some (.iface 182 (.agg #[.pointer (some ⟨7, 29, none⟩)]))
theorem ErrT.lt {w : World} (h : ErrT w) : 0 < w.heap.size := by
  rcases Nat.lt_or_ge 0 w.heap.size with h0 | h0
  · exact h0
  · unfold ErrT at h
    simp [World.cell?, Array.getElem?_eq_none h0] at h
theorem ErrT.on {w w' : World} (h : ErrT w) (hb : Below w.heap.size w w') : ErrT w' := (hb.cell (p := ⟨0, 0, none⟩) h.lt).trans h

set_option maxHeartbeats 4000000 in
theorem as_spot (e t : Addr) (old : Value) (w : World) (hg : ErrT w) (ht0 : w.cell? t = some old) (hf0 : w.frozen? t = false) :
    Calls Tryz.prog 67 #[.iface 99 (.pointer (some e)), .iface 111 (.pointer (some t))] w fun ev w' => ev = .returned (.bool true) ∧ w' = ((((w.alloc (.cells #[.pointer (some t)] 111)).alloc (.cells #[.pointer (some ⟨7, 111, none⟩), .pointer (some ⟨w.heap.size, 0, none⟩), .int .u64 150] 144)).alloc (.cells #[.pointer (some ⟨7, 111, none⟩), .pointer (some ⟨w.heap.size, 0, none⟩), .int .u64 150] 144)).alloc (.cells #[.pointer (some e)] 99)).setCell t (.pointer (some e)) := by
  have h6 := @run_callFunc_extern Tryz.prog 106 _ (fun args => ReflectliteValue.unpack (args.getD 0 (.tuple #[]))) Tryz.func106 (by kernel_rfl) (by kernel_rfl) (by kernel_rfl) (by kernel_rfl)
  have h7 := @run_callFunc_extern Tryz.prog 107 _ (ReflectliteValue.methodAny (ReflectliteValue.valueError "reflectlite.Value.Type" 0) (fun t _ _ _ => ReflectliteType.toType t)) Tryz.func107 (by kernel_rfl) (by kernel_rfl) (by kernel_rfl) (by kernel_rfl)
  have h8 := @run_callFunc_extern Tryz.prog 108 _ (ReflectliteValue.method (ReflectliteValue.valueError "reflectlite.Value.IsNil" 0) ReflectliteValue.isNil) Tryz.func108 (by kernel_rfl) (by kernel_rfl) (by kernel_rfl) (by kernel_rfl)
  have h27 := @run_callFunc_extern Tryz.prog 248 _ (ReflectliteType.abiMethod fun t => do pure (.int .u8 (← Rtype.kind t))) Tryz.func248 (by kernel_rfl) (by kernel_rfl) (by kernel_rfl) (by kernel_rfl)
  have h37 := @run_callFunc_extern Tryz.prog 261 _ (ReflectliteType.method ReflectliteType.elem) Tryz.func261 (by kernel_rfl) (by kernel_rfl) (by kernel_rfl) (by kernel_rfl)
  have h38 := @run_callFunc_extern Tryz.prog 262 _ (ReflectliteType.relation "Implements" ReflectliteType.implements_) Tryz.func262 (by kernel_rfl) (by kernel_rfl) (by kernel_rfl) (by kernel_rfl)
  have h10 := @run_callFunc_extern Tryz.prog 110 _ ReflectliteType.typeOf Tryz.func110 (by kernel_rfl) (by kernel_rfl) (by kernel_rfl) (by kernel_rfl)
  have h35 := @run_callFunc_extern Tryz.prog 259 _ (ReflectliteType.relation "AssignableTo" ReflectliteType.assignableTo) Tryz.func259 (by kernel_rfl) (by kernel_rfl) (by kernel_rfl) (by kernel_rfl)
  have h11 := @run_callFunc_extern Tryz.prog 150 _ (ReflectliteValue.method (ReflectliteValue.valueError "reflectlite.Value.Elem" 0) ReflectliteValue.elem) Tryz.func150 (by kernel_rfl) (by kernel_rfl) (by kernel_rfl) (by kernel_rfl)
  have h12 := @run_callFunc_extern Tryz.prog 151 _ ReflectliteValue.set Tryz.func151 (by kernel_rfl) (by kernel_rfl) (by kernel_rfl) (by kernel_rfl)
  have tO := sp_typeOfP
  have mA := sp_methodAssignableTo
  have a25 := sp_assignable
  have v25 := sp_valueOfP
  have f6 := sp_valueOfPP
  have f7 := sp_typePP
  have mK := sp_methodKind
  have mE := sp_methodElem
  have mI := sp_methodImplements
  have k27 := sp_kindPP
  have k25 := sp_kindP
  have e27 := sp_elemPP
  have i25 := sp_implements
  have n8 := sp_isNilPP ⟨w.heap.size, 0, none⟩ t ((w.alloc (.cells #[.pointer (some t)] 111)).alloc (.cells #[.pointer (some ⟨7, 111, none⟩), .pointer (some ⟨w.heap.size, 0, none⟩), .int .u64 150] 144)) (by simp)
  have hlt : 0 < w.heap.size := hg.lt
  have hg2 : ((w.alloc (.cells #[.pointer (some t)] 111)).alloc (.cells #[.pointer (some ⟨7, 111, none⟩), .pointer (some ⟨w.heap.size, 0, none⟩), .int .u64 150] 144)).cell? ⟨0, 0, none⟩ = some (.iface 182 (.agg #[.pointer (some ⟨7, 29, none⟩)])) := by
    rw [World.cell?_alloc_lt _ _ ⟨0, 0, none⟩ (by simp <;> omega), World.cell?_alloc_lt _ _ ⟨0, 0, none⟩ hlt]; exact hg
  have htl : t.block < w.heap.size := by
    rcases Nat.lt_or_ge t.block w.heap.size with h | h
    · exact h
    · simp [World.cell?, Array.getElem?_eq_none h] at ht0
  have el := sp_elemVPP ⟨w.heap.size, 0, none⟩ t (((w.alloc (.cells #[.pointer (some t)] 111)).alloc (.cells #[.pointer (some ⟨7, 111, none⟩), .pointer (some ⟨w.heap.size, 0, none⟩), .int .u64 150] 144)).alloc (.cells #[.pointer (some ⟨7, 111, none⟩), .pointer (some ⟨w.heap.size, 0, none⟩), .int .u64 150] 144)) (by rw [World.cell?_alloc_lt _ _ ⟨w.heap.size, 0, none⟩ (by simp; omega)]; simp)
  have st := sp_set t ⟨w.heap.size + 1 + 1 + 1, 0, none⟩ e old ((((w.alloc (.cells #[.pointer (some t)] 111)).alloc (.cells #[.pointer (some ⟨7, 111, none⟩), .pointer (some ⟨w.heap.size, 0, none⟩), .int .u64 150] 144)).alloc (.cells #[.pointer (some ⟨7, 111, none⟩), .pointer (some ⟨w.heap.size, 0, none⟩), .int .u64 150] 144)).alloc (.cells #[.pointer (some e)] 99))
    (by rw [World.cell?_alloc_at _ _ _ _ (by simp)]; rfl)
    (by rw [World.cell?_alloc_lt _ _ t (by simp; omega), World.cell?_alloc_lt _ _ t (by simp; omega), World.cell?_alloc_lt _ _ t (by simp; omega), World.cell?_alloc_lt _ _ t htl]; exact ht0)
    (by rw [World.frozen?_alloc_old _ _ t (by simp; omega), World.frozen?_alloc_old _ _ t (by simp; omega), World.frozen?_alloc_old _ _ t (by simp; omega), World.frozen?_alloc_old _ _ t (Nat.ne_of_lt htl)]; exact hf0)
  go_enter Tryz.func67, Tryz.ntmps67
  go_wp2
  refine wp_loop_rounds 1 ?_
  rw [rounds_succ]
  go_wp2
  go_ret
  exact ⟨rfl, rfl⟩

end Go.Proofs.YtpfoclpgcbjjoaaGreatDoor

/- errors.Is at an error that is a *Spot whose Err is a Code, held against that Code: the library's own text walked. -/
namespace Go.Proofs.YtpfoclpgcbjjoaaGreatDoor
open Go.RowKit Go.Extern.Stop Go.Stop Go.Extern

theorem sp_typeOfC (v : Value) (w : World) : (ReflectliteType.typeOf #[.iface 32 v]).run Tryz.prog w = .ok (.iface 182 (.agg #[.pointer (some ⟨7, 32, none⟩)])) w := by kernel_rfl
theorem sp_methodComparable (h : Value) (w : World) : (Go.method 392 182 (.agg #[h]) "Comparable").run Tryz.prog w = .ok (260, .agg #[h]) w := by kernel_rfl
theorem sp_comparableC (w : World) : ((ReflectliteType.method fun t => do Rtype.noPackHeld "Comparable" t; (fun a => Value.bool a.comparable) <$> typeInfo t) #[.agg #[.pointer (some ⟨7, 32, none⟩)]]).run Tryz.prog w = .ok (.bool true) w := by kernel_rfl
theorem sp_comp : (Tryz.prog.info? 32).map (·.comparable) = some true := by kernel_rfl
theorem sp_noIs (v : Value) (xT : TypeId) (w : World) : (Instr.typeAssert (.iface 99 v) xT 193 true).run Tryz.prog w = .ok (.tuple #[.nilIface, .bool false]) w := run_typeAssert_lacksB Tryz.underlying193 (by kernel_rfl) (by kernel_rfl) v xT w
theorem sp_hasUnwrap (v : Value) (xT : TypeId) (w : World) : (Instr.typeAssert (.iface 99 v) xT 189 true).run Tryz.prog w = .ok (.tuple #[.iface 99 v, .bool true]) w := run_typeAssert_hasB Tryz.underlying189 (by kernel_rfl) v xT w
theorem sp_methodUnwrap (v : Value) (w : World) : (Go.method 392 99 v "Unwrap").run Tryz.prog w = .ok (254, v) w := by kernel_rfl

/-- errors.Is(e, c), e a *Spot whose Err is the Code c. -/
theorem is_spot (b : Nat) (c : Int) (w : World) (h1 : w.cell? ⟨b, 1, none⟩ = some (.iface 32 (.int .i64 c))) :
    Calls Tryz.prog 68 #[.iface 99 (.pointer (some ⟨b, 0, none⟩)), .iface 32 (.int .i64 c)] w fun e w' => e = .returned (.bool true) ∧ w' = w := by
  have h8 := @run_callFunc_extern Tryz.prog 110 _ ReflectliteType.typeOf Tryz.func110 (by kernel_rfl) (by kernel_rfl) (by kernel_rfl) (by kernel_rfl)
  have h32 := @run_callFunc_extern Tryz.prog 260 _ (ReflectliteType.method fun t => do Rtype.noPackHeld "Comparable" t; pure (.bool (← typeInfo t).comparable)) Tryz.func260 (by kernel_rfl) (by kernel_rfl) (by kernel_rfl) (by kernel_rfl)
  have tT := sp_typeOfC
  have cT := sp_comparableC
  have mR := sp_methodComparable
  have nE := sp_noIs
  have uW := sp_hasUnwrap
  have mU := sp_methodUnwrap
  have heq := Lib.run_eql_iface_int (P := Tryz.prog) (k := .i64) w c c Tryz.underlying29 sp_comp Tryz.underlying32
  have hty := run_eql_iface_types (P := Tryz.prog) 99 32 (.pointer (some ⟨b, 0, none⟩)) (.int .i64 c) Tryz.underlying29 (by decide) w
  go_enter Tryz.func68, Tryz.ntmps68
  go_wp2
  refine wp_loop_rounds 2 ?_
  rw [rounds_succ]
  go_wp2
  rw [rounds_succ]
  go_wp2
  go_ret
  exact ⟨rfl, rfl⟩

end Go.Proofs.YtpfoclpgcbjjoaaGreatDoor

/- The law's own question: an error that is a *Spot at a place with a Code is one. -/
namespace Go.Proofs.YtpfoclpgcbjjoaaGreatDoor
open Go.RowKit

theorem sp_compP : (Tryz.prog.info? 99).map (·.comparable) = some true := by kernel_rfl
theorem sp_sizeS : (Tryz.prog.info? 91).map (·.size) = some 2 := by kernel_rfl
theorem sp_eqSame (a : Addr) (w : World) : (binOp .eql 29 (.iface 99 (.pointer (some a))) (.iface 99 (.pointer (some a)))).run Tryz.prog w = .ok (.bool true) w := by
  obtain ⟨i, hi, hcmp⟩ := Option.map_eq_some_iff.1 sp_compP
  obtain ⟨j, hj, -⟩ := Option.map_eq_some_iff.1 sp_sizeS
  exact run_eql_iface_ptr_same (P := Tryz.prog) w a Tryz.underlying29 Tryz.underlying99 hi hcmp hj
theorem sp_neSame (a : Addr) (w : World) : (binOp .neq 29 (.iface 99 (.pointer (some a))) (.iface 99 (.pointer (some a)))).run Tryz.prog w = .ok (.bool false) w := by
  have h := sp_eqSame a w
  simp only [binOp] at h ⊢
  cases he : (Op.equal 29 (.iface 99 (.pointer (some a))) (.iface 99 (.pointer (some a)))).run Tryz.prog w <;> simp_all [Result.andThen]
theorem sp_eqCode (a b : Int) (w : World) : (binOp .eql 29 (.iface 32 (.int .i64 a)) (.iface 32 (.int .i64 b))).run Tryz.prog w = .ok (.bool (a == b)) w :=
  Lib.run_eql_iface_int (P := Tryz.prog) (k := .i64) w a b Tryz.underlying29 sp_comp Tryz.underlying32

theorem cell_on {w W : World} {b o : Nat} {v : Value} (hb : Below w.heap.size w W) (h : b < w.heap.size) (h1 : w.cell? ⟨b, o, none⟩ = some v) : W.cell? ⟨b, o, none⟩ = some v := (hb.cell (p := ⟨b, o, none⟩) h).trans h1

/-- errors.As in one word: the target holds the Spot, all below is as it was. -/
theorem as_below (e : Addr) (w W : World) (old : Value) (hg : ErrT W) (hb : Below w.heap.size w W) (ht : W.cell? ⟨w.heap.size, 0, none⟩ = some old) (hf : W.frozen? ⟨w.heap.size, 0, none⟩ = false) :
    Calls Tryz.prog 67 #[.iface 99 (.pointer (some e)), .iface 111 (.pointer (some ⟨w.heap.size, 0, none⟩))] W fun ev w' => ev = .returned (.bool true) ∧ w'.cell? ⟨w.heap.size, 0, none⟩ = some (.pointer (some e)) ∧ Below w.heap.size w w' := by
  have hlt : w.heap.size < W.heap.size := by
    rcases Nat.lt_or_ge w.heap.size W.heap.size with h | h
    · exact h
    · simp [World.cell?, Array.getElem?_eq_none h] at ht
  refine (as_spot e _ old W hg ht hf).mono ?_
  rintro ev w' ⟨rfl, rfl⟩
  refine ⟨rfl, ?_, ?_⟩
  · exact World.cell?_setCell_same' _ _ _ (by
      rw [World.cell?_alloc_lt _ _ _ (by simp; omega), World.cell?_alloc_lt _ _ _ (by simp; omega), World.cell?_alloc_lt _ _ _ (by simp; omega), World.cell?_alloc_lt _ _ _ hlt, ht]; rfl)
  · repeat (first | exact hb | with_reducible refine below_new ?_ _ | with_reducible refine below_put ?_ (by simp <;> omega) _)

set_option maxHeartbeats 2000000 in
theorem isSpot_any (b : Nat) (p c : Int) (w : World) (hg : ErrT w) (hb : b < w.heap.size) (h0 : w.cell? ⟨b, 0, none⟩ = some (.int .i64 p)) (h1 : w.cell? ⟨b, 1, none⟩ = some (.iface 32 (.int .i64 c))) :
    Calls Tryz.prog 26 #[.iface 99 (.pointer (some ⟨b, 0, none⟩)), .int .i64 p, .int .i64 c] w fun e w' => e = .returned (.bool true) ∧ Below w.heap.size w w' := by
  have HB := Lib.hid hb
  have H0 := Lib.hid h0
  have H1 := Lib.hid h1
  clear hb h0 h1
  have hne := sp_neSame ⟨b, 0, none⟩
  have heq := sp_eqCode c c
  go_enter Tryz.func26, Tryz.ntmps26
  go_wp2_with fail
  refine (as_below _ w _ (.pointer none) (hg.on (below_new (Below.refl _ _) _)) (below_new (Below.refl _ _) _) (by go_simp) (by go_simp)).mono ?_; rintro e w1 ⟨rfl, ct, hb1⟩
  have c0 := cell_on hb1 HB.out H0.out
  have c1 := cell_on hb1 HB.out H1.out
  go_wp2_with fail
  refine (is_spot _ c _ c1).mono ?_; rintro e w' ⟨rfl, rfl⟩
  go_wp2
  go_ret
  exact ⟨rfl, hb1⟩

end Go.Proofs.YtpfoclpgcbjjoaaGreatDoor

/- The walk of ExprParses: whatever text is handed in. -/
namespace Go.Proofs.YtpfoclpgcbjjoaaGreatDoor
open Go.RowKit
open Go.Sort
open M

theorem told_any (g : Nat) (j b : Nat) (w : World) (hg : ErrT w) (h : SpC g j b w) :
    Calls Tryz.prog 21 #[.iface 99 (.pointer (some ⟨g, 0, none⟩)), .int .i64 b, .int .i64 j] w fun e w' => e = .returned (.bool true) ∧ Below w.heap.size w w' := by
  have IS := Lib.hid (isSpot_any g j b w hg h.1 h.2.1 h.2.2)
  have h0 : ¬ (j : Int) < 0 := by omega
  clear hg h
  go_enter Tryz.func21, Tryz.ntmps21
  go_wp2_with fail
  refine IS.out.mono ?_; rintro e w1 ⟨rfl, hb1⟩
  go_wp2_with fail
  go_ret
  exact ⟨rfl, hb1⟩

def exA5 : ByteArray := ⟨#[123, 98, 58, 32, 73, 110, 116, 44, 32, 97, 58, 32, 84, 101, 120, 116, 125]⟩
def exB5 : ByteArray := ⟨#[123, 97, 58, 32, 73, 110, 116, 44, 32, 97, 58, 32, 84, 101, 120, 116, 125]⟩
def exT5 : Ty := .mk 5 ⟨#[]⟩ 0 ⟨#[]⟩ ⟨#[]⟩ [⟨#[97]⟩, ⟨#[98]⟩] [leafK 2, leafK 1]
theorem exA5_res : parR exA5 = .ok exT5 9 3 := by kernel_rfl
theorem exB5_res : parR exB5 = .err 5 5 := by kernel_rfl

theorem noT_at (w : World) : TyV w (.agg #[.int .i64 0, .string ⟨#[]⟩, .int .i64 0, .string ⟨#[]⟩, .string ⟨#[]⟩, .slice none 0 0, .slice none 0 0]) noT := ⟨_, rfl, TyAt.zero w⟩
theorem same_noT : sameT noT noT = true := (sameT_iff _ _).2 rfl

end Go.Proofs.YtpfoclpgcbjjoaaGreatDoor

/- The walk of SyntaxParses: whatever text is handed in. -/
namespace Go.Proofs.YtpfoclpgcbjjoaaGreatDoor
open Go.RowKit
open Go.Sort
open M

def exA6 : ByteArray := ⟨#[109, 111, 100, 117, 108, 101, 32, 109, 32, 111, 112, 97, 113, 117, 101, 32, 84, 32, 118, 97, 108, 32, 102, 32, 58, 32, 40, 84, 41, 32, 45, 62, 32, 73, 110, 116]⟩
def exB6 : ByteArray := ⟨#[109, 111, 100, 117, 108, 101, 32, 109, 32, 111, 112, 97, 113, 117, 101, 32, 116]⟩
def exM6 : Mo := ⟨⟨#[109]⟩, [], [⟨1, ⟨#[84]⟩, noT⟩, ⟨4, ⟨#[102]⟩, .mk 7 ⟨#[]⟩ 0 ⟨#[]⟩ ⟨#[]⟩ [] [localT ⟨#[]⟩ ⟨#[84]⟩, leafK 1]⟩]⟩
theorem exA6_res : parM exA6 = .ok exM6 12 0 := by kernel_rfl
theorem exB6_res : parM exB6 = .err 2 3 := by kernel_rfl
def noM : Mo := ⟨⟨#[]⟩, [], []⟩
theorem MoAt.zero (w : World) : MoAt w [.string ⟨#[]⟩, .slice none 0 0, .slice none 0 0] noM := ⟨none, 0, none, 0, rfl, by decide, by decide, by decide, fun i x h => by simp [noM] at h, fun i x h => by simp [noM] at h⟩

set_option maxRecDepth 100000 in
set_option maxHeartbeats 4000000 in
theorem up6_any (w : World) (he : CEnv w) (hg : ErrT w) : Calls Tryz.prog 8 #[] w fun e w' => e = .returned (.bool true) ∧ Below w.heap.size w w' := by
  have PA := cmparse_any exA6 w (by decide) he
  rw [exA6_res] at PA
  have HPA := Lib.hid PA
  have HE := Lib.hid he
  have HG := Lib.hid hg
  clear PA he hg
  go_enter Tryz.func8, Tryz.ntmps8
  go_wp2_with fail
  refine HPA.out.mono ?_
  rintro e w1 ⟨B1, ⟨l, m, j, hok, rfl, hM⟩ | ⟨b, j, g, herr, -⟩⟩
  rotate_left
  · cases herr
  cases hok
  obtain ⟨Ai, ci, Ad, cd, rfl, -, -, -, -, hD⟩ := hM.free
  obtain ⟨w2, hw2⟩ : ∃ w2, w2 = w1.alloc (.cells #[.string ⟨#[109]⟩, .slice Ai 0 ci, .slice Ad 2 cd] 25) := ⟨_, rfl⟩
  have B2 : Below w1.heap.size w1 w2 := by rw [hw2]; exact below_new (Below.refl _ _) _
  have O2 : w2.heap[w1.heap.size]? = some (.cells #[.string ⟨#[109]⟩, .slice Ai 0 ci, .slice Ad 2 cd] 25 (0, 0)) := by rw [hw2]; exact heap_alloc_new w1 _
  have B02 := below_over B1 B2
  have PB := cmparse_any exB6 w2 (by decide) (HE.out.on B02)
  rw [exB6_res] at PB
  have HPB := Lib.hid PB
  have HB02 := Lib.hid B02
  have HD := Lib.hid hD
  have HO2 := Lib.hid O2
  have HB2 := Lib.hid B2
  have HW2 := Lib.hid hw2
  clear hM hD B1 B2 O2 PB B02 hw2 HPA
  go_upto_region 2 with fail
  unfold exM6
  simp only [List.length_cons, List.length_nil]
  rw [← HW2.out]
  go_wp2_with fail
  refine HPB.out.mono ?_
  rintro e w3 ⟨B3, ⟨l, m, j, hok, -⟩ | ⟨b, j, g, herr, -, rfl, hsp⟩⟩
  · cases hok
  cases herr
  obtain ⟨w4, hw4⟩ : ∃ w4, w4 = w3.alloc (.cells #[.string ⟨#[]⟩, .slice none 0 0, .slice none 0 0] 25) := ⟨_, rfl⟩
  have B4 : Below w3.heap.size w3 w4 := by rw [hw4]; exact below_new (Below.refl _ _) _
  have B24 := below_over B3 B4
  have hsp4 := hsp.below B4
  have IS := Lib.hid (isSpot_any g 3 2 w4 (HG.out.on (below_over HB02.out B24)) hsp4.1 hsp4.2.1 hsp4.2.2)
  have hl2 := (Array.getElem?_eq_some_iff.1 HO2.out).1
  have O4 := (B24.block _ hl2).trans HO2.out
  have z0 := Lib.cell_of_heap O4 0
  have z2 := Lib.cell_of_heap O4 2
  simp at z0 z2
  have B14 := below_over HB2.out B24
  obtain ⟨g2, o2, v0, v1, v2, v3, v4, v5, v6, rfl, -, k1, -⟩ := (HD.out.below B14).de (i := 1) (x := ⟨4, ⟨#[102]⟩, .mk 7 ⟨#[]⟩ 0 ⟨#[]⟩ ⟨#[]⟩ [] [localT ⟨#[]⟩ ⟨#[84]⟩, leafK 1]⟩) rfl
  simp at k1
  have FIN := Lib.hid (below_over HB02.out B24)
  have HW4 := Lib.hid hw4
  clear hw4 B3 B4 B24 hsp O4 B14 HD HO2 HB2 HPB hl2 hsp4
  go_upto_region 3 with fail
  rw [← HW4.out]
  go_wp2_with fail
  refine IS.out.mono ?_; rintro e w5 ⟨rfl, hb5⟩
  go_wp2_with fail
  go_ret
  exact ⟨rfl, below_over FIN.out hb5⟩

end Go.Proofs.YtpfoclpgcbjjoaaGreatDoor

/- A module handed in: what its cells read as. -/
namespace Go.Proofs.YtpfoclpgcbjjoaaGreatDoor
open Go Go.ChangeShapes Go.WideShapes Go.ChangeAt Go.RowKit Go.Joins Go.Deep
open M

section
variable {H : Type} {enc : TypeId × Value → H} {w : World} {base : Nat} {sp : Nat → Bool} {held : Bool}

/-- A slice whose elements read as these. -/
theorem open_rows {α : Type} (R : Reads α) (st : TypeId) (a0 : α) (ht : Tryz.prog.underlying st = some (.slice R.T)) (hk : Tryz.prog.cellsOf R.T = R.k) (hpos : 0 < R.k)
    (hE : ∀ (n : Nat) (cs : List Value) (x : DataW H × List MemPlace), DataW.trod enc Tryz.prog w base sp held n R.T cs = some x → ∃ a, R.E w cs a)
    {fuel : Nat} {v : Value} {x : DataW H × List MemPlace} (h : DataW.trod enc Tryz.prog w base sp held fuel st [v] = some x) : ∃ (A : Option Addr) (c : Nat) (l : List α), v = .slice A l.length c ∧ l.length ≤ maxLen ∧ RowIn R w A l := by
  rcases DataW.trod_slice ht h with ⟨hc, -⟩ | ⟨a', len, cap, elems, rest, n', hn', hc, -, -, hl, hm, hlen', hel, -, -⟩
  · obtain rfl := List.head_eq_of_cons_eq hc
    exact ⟨none, 0, [], rfl, Nat.zero_le _, fun i x hx => by simp at hx⟩
  · obtain rfl := List.head_eq_of_cons_eq hc
    rw [hk] at hel
    have hall : ∀ i, ∃ q : α × List Value, i < len → w.cells? base (a'.add (i * R.k)) R.k = some q.2 ∧ R.E w q.2 q.1 := by
      intro i
      by_cases hi : i < len
      · have h1 := hel i hi
        rw [List.getElem?_eq_getElem (by rw [hlen']; exact hi)] at h1
        obtain ⟨cs', h2, h3⟩ := Option.bind_eq_some_iff.1 h1
        obtain ⟨t, ht⟩ := hE n' cs' _ h3
        exact ⟨(t, cs'), fun _ => ⟨h2, ht⟩⟩
      · exact ⟨(a0, []), fun h => absurd h hi⟩
    obtain ⟨F, hF⟩ := Classical.axiomOfChoice hall
    clear hall hel hE
    have hsome : ∀ i t, ((List.range len).map fun i => (F i).1)[i]? = some t → i < len ∧ t = (F i).1 := by
      intro i t ht
      rw [List.getElem?_map] at ht
      rcases Nat.lt_or_ge i len with hi | hi
      · rw [List.getElem?_range hi] at ht
        exact ⟨hi, (Option.some.inj ht).symm⟩
      · rw [List.getElem?_eq_none (by simpa using hi)] at ht
        cases ht
    have hle : ((List.range len).map fun i => (F i).1).length = len := by simp
    refine ⟨some a', cap, (List.range len).map fun i => (F i).1, by rw [hle], by rw [hle]; exact Nat.le_trans hl hm, fun i t ht => ?_⟩
    obtain ⟨hi, rfl⟩ := hsome i t ht
    obtain ⟨b, o, spot⟩ := a'
    have hat := (World.cells?_some (hF i hi).1).2.2
    have hlk := R.len _ _ _ (hF i hi).2
    have hspot : spot = none := by
      have hc := (World.cells?_some (hF 0 (by omega)).1).2.2 0 hpos
      rw [List.getElem?_eq_getElem (by rw [R.len _ _ _ (hF 0 (by omega)).2]; exact hpos)] at hc
      have := World.cell?_spot hc
      simpa [Addr.add] using this
    subst hspot
    have hcell : ∀ j v, (F i).2[j]? = some v → w.cell? ⟨b, o + i * R.k + j, none⟩ = some v := by
      intro j v hv
      have hj : j < R.k := by
        have := (List.getElem?_eq_some_iff.1 hv).1
        rw [hlk] at this; exact this
      have := hat j hj
      rw [WideShapes.add_plain, WideShapes.add_plain] at this
      rw [this]; exact hv
    exact ⟨b, o, (F i).2, rfl, World.block_lt_of_cell? w _ (hcell 0 _ (List.getElem?_eq_getElem (by rw [hlk]; exact hpos))), hcell, (hF i hi).2⟩

theorem impCells : Tryz.prog.cellsOf 67 = 4 := by kernel_rfl
theorem decCells : Tryz.prog.cellsOf 52 = 9 := by kernel_rfl
theorem modCells : Tryz.prog.cellsOf 25 = 3 := by kernel_rfl
theorem modCellsI : Tryz.prog.cellsOf 22 = 1 := by kernel_rfl
theorem modCellsD : Tryz.prog.cellsOf 23 = 1 := by kernel_rfl
theorem list4 {α : Type} : ∀ l : List α, l.length = 4 → ∃ a b c d, l = [a, b, c, d]
  | [a, b, c, d], _ => ⟨a, b, c, d, rfl⟩
  | [], h => by simp at h
  | [_], h => by simp at h
  | [_, _], h => by simp at h
  | [_, _, _], h => by simp at h
  | _ :: _ :: _ :: _ :: _ :: _, h => by simp at h
theorem list9 {α : Type} : ∀ l : List α, l.length = 9 → ∃ a b r, l = a :: b :: r ∧ r.length = 7
  | a :: b :: r, h => ⟨a, b, r, rfl, by simpa using h⟩
  | [], h => by simp at h
  | [_], h => by simp at h
theorem list3' {α : Type} : ∀ l : List α, l.length = 3 → ∃ a b c, l = [a, b, c]
  | [a, b, c], _ => ⟨a, b, c, rfl⟩
  | [], h => by simp at h
  | [_], h => by simp at h
  | [_, _], h => by simp at h
  | _ :: _ :: _ :: _ :: _, h => by simp at h

theorem open_im (n : Nat) (cs : List Value) (x : DataW H × List MemPlace) (h : DataW.trod enc Tryz.prog w base sp held n 67 cs = some x) : ∃ a, imE w cs a := by
  obtain ⟨xs, n, hfuel, -, hlen, hxl, hf⟩ := DataW.trod_struct Tryz.underlying67 h
  rw [impCells] at hlen
  obtain ⟨c0, c1, c2, c3, rfl⟩ := list4 cs hlen
  have q : ∀ j, j < 4 → ∃ y, xs[j]? = some y := fun j hj => ⟨_, List.getElem?_eq_getElem (by rw [hxl]; exact hj)⟩
  obtain ⟨y0, e0⟩ := q 0 (by omega); obtain ⟨y1, e1⟩ := q 1 (by omega); obtain ⟨y2, e2⟩ := q 2 (by omega); obtain ⟨y3, e3⟩ := q 3 (by omega)
  have g0 : DataW.trod enc Tryz.prog w base sp held n 9 (([c0, c1, c2, c3].drop 0).take (Tryz.prog.cellsOf 9)) = some y0 := (hf 0 _ rfl).trans e0
  have g1 : DataW.trod enc Tryz.prog w base sp held n 3 (([c0, c1, c2, c3].drop 1).take (Tryz.prog.cellsOf 3)) = some y1 := (hf 1 _ rfl).trans e1
  have g2 : DataW.trod enc Tryz.prog w base sp held n 9 (([c0, c1, c2, c3].drop 2).take (Tryz.prog.cellsOf 9)) = some y2 := (hf 2 _ rfl).trans e2
  have g3 : DataW.trod enc Tryz.prog w base sp held n 9 (([c0, c1, c2, c3].drop 3).take (Tryz.prog.cellsOf 9)) = some y3 := (hf 3 _ rfl).trans e3
  rw [tyCellsStr] at g0 g2 g3
  rw [tyCellsInt] at g1
  obtain ⟨p, k0, -, z0⟩ := DataW.trod_string Tryz.underlying9 g0
  obtain ⟨m, k1, -, -⟩ := DataW.trod_int Tryz.underlying3 g1
  obtain ⟨d, k2, -, z2⟩ := DataW.trod_string Tryz.underlying9 g2
  obtain ⟨a, k3, -, z3⟩ := DataW.trod_string Tryz.underlying9 g3
  simp at k0 k1 k2 k3
  subst k0 k1 k2 k3
  unfold maxLen at z0 z2 z3
  exact ⟨⟨p, m, d, a⟩, rfl, z0, z2, z3⟩
theorem open_de (n : Nat) (cs : List Value) (x : DataW H × List MemPlace) (h : DataW.trod enc Tryz.prog w base sp held n 52 cs = some x) : ∃ a, deE w cs a := by
  obtain ⟨xs, n, hfuel, -, hlen, hxl, hf⟩ := DataW.trod_struct Tryz.underlying52 h
  rw [decCells] at hlen
  obtain ⟨c0, c1, r, rfl, hr⟩ := list9 cs hlen
  have q : ∀ j, j < 3 → ∃ y, xs[j]? = some y := fun j hj => ⟨_, List.getElem?_eq_getElem (by rw [hxl]; exact hj)⟩
  obtain ⟨y0, e0⟩ := q 0 (by omega); obtain ⟨y1, e1⟩ := q 1 (by omega); obtain ⟨y2, e2⟩ := q 2 (by omega)
  have g0 : DataW.trod enc Tryz.prog w base sp held n 3 (((c0 :: c1 :: r).drop 0).take (Tryz.prog.cellsOf 3)) = some y0 := (hf 0 _ rfl).trans e0
  have g1 : DataW.trod enc Tryz.prog w base sp held n 9 (((c0 :: c1 :: r).drop 1).take (Tryz.prog.cellsOf 9)) = some y1 := (hf 1 _ rfl).trans e1
  have g2 : DataW.trod enc Tryz.prog w base sp held n 42 (((c0 :: c1 :: r).drop 2).take (Tryz.prog.cellsOf 42)) = some y2 := (hf 2 _ rfl).trans e2
  rw [tyCellsInt] at g0
  rw [tyCellsStr] at g1
  rw [tyCells, show ((c0 :: c1 :: r).drop 2).take 7 = r by simp [← hr]] at g2
  obtain ⟨k, k0, -, -⟩ := DataW.trod_int Tryz.underlying3 g0
  obtain ⟨s, k1, -, z1⟩ := DataW.trod_string Tryz.underlying9 g1
  obtain ⟨t, ht⟩ := open_tree _ _ _ g2
  simp at k0 k1
  subst k0 k1
  unfold maxLen at z1
  exact ⟨⟨k, s, t⟩, z1, r, rfl, ht⟩

set_option maxRecDepth 100000 in
/-- A module handed in. -/
theorem open_module {r : Reach} {b0 : Nat} {v : Value} {d : DataW H} {p : List MemPlace} (hv : Value.okWide Tryz.prog w r b0 25 v) (h : DataW.Trod enc Tryz.prog w base sp held 25 v d p) : ∃ l m, v = .agg l.toArray ∧ MoAt w l m := by
  obtain ⟨cs, rfl, -⟩ := okWide_struct Tryz.underlying25 hv
  obtain ⟨fuel, hf⟩ := h
  obtain ⟨cl⟩ := cs
  obtain ⟨xs, n, hfuel, -, hlen, hxl, hf⟩ := DataW.trod_struct Tryz.underlying25 hf
  rw [modCells] at hlen
  obtain ⟨c0, c1, c2, hcl⟩ := list3' cl hlen
  subst hcl
  have q : ∀ j, j < 3 → ∃ y, xs[j]? = some y := fun j hj => ⟨_, List.getElem?_eq_getElem (by rw [hxl]; exact hj)⟩
  obtain ⟨y0, e0⟩ := q 0 (by omega); obtain ⟨y1, e1⟩ := q 1 (by omega); obtain ⟨y2, e2⟩ := q 2 (by omega)
  have g0 : DataW.trod enc Tryz.prog w base sp held n 9 (([c0, c1, c2].drop 0).take (Tryz.prog.cellsOf 9)) = some y0 := (hf 0 _ rfl).trans e0
  have g1 : DataW.trod enc Tryz.prog w base sp held n 22 (([c0, c1, c2].drop 1).take (Tryz.prog.cellsOf 22)) = some y1 := (hf 1 _ rfl).trans e1
  have g2 : DataW.trod enc Tryz.prog w base sp held n 23 (([c0, c1, c2].drop 2).take (Tryz.prog.cellsOf 23)) = some y2 := (hf 2 _ rfl).trans e2
  rw [tyCellsStr] at g0
  rw [modCellsI] at g1
  rw [modCellsD] at g2
  have h1 : DataW.trod enc Tryz.prog w base sp held n 22 [c1] = some y1 := g1
  have h2 : DataW.trod enc Tryz.prog w base sp held n 23 [c2] = some y2 := g2
  obtain ⟨s, k0, -, z0⟩ := DataW.trod_string Tryz.underlying9 g0
  simp at k0
  subst k0
  obtain ⟨Ai, ci, li, rfl, hli, hI⟩ := open_rows imR 22 ⟨⟨#[]⟩, 0, ⟨#[]⟩, ⟨#[]⟩⟩ Tryz.underlying22 impCells (by decide) open_im h1
  obtain ⟨Ad, cd, ld, rfl, hld, hD⟩ := open_rows deR 23 ⟨0, ⟨#[]⟩, noT⟩ Tryz.underlying23 decCells (by decide) open_de h2
  unfold maxLen at z0 hli hld
  exact ⟨_, ⟨s, li, ld⟩, rfl, Ai, ci, Ad, cd, rfl, z0, hli, hld, hI, hD⟩
end
end Go.Proofs.YtpfoclpgcbjjoaaGreatDoor

/- Walks of the reference's gone-through types: how many, how deep, plain. -/
namespace Go.Proofs.YtpfoclpgcbjjoaaGreatDoor
open Go.RowKit
open M

set_option maxHeartbeats 2000000 in
theorem many_any (N : Nat) : ∀ (t : Ty), many t ≤ N → many t ≤ 9000 → ∀ (v : Value) (w : World), TyV w v t →
    Calls Tryz.prog 64 #[v] w fun e w' => e = .returned (.int .i64 (many t : Nat)) ∧ Below w.heap.size w w' := by
  induction N with
  | zero => intro t h; have := many_pos t; omega
  | succ N ih =>
    intro t hN hM v w hv
    obtain ⟨l, rfl, hT⟩ := hv
    obtain ⟨An, cn, As, cs, rfl, -, -, -, -, hz, -, hS⟩ := hT.parts
    have HS := Lib.hid hS
    have HE := Lib.hid (manyL_eq t)
    have HL := manyL_len t.subs
    have hM' : manyL t.subs ≤ 9000 := by have := HE.out; omega
    clear hT hS
    generalize hn : t.subs.length = n at hz HL
    have HN := Lib.hid hn
    clear hn
    go_enter Tryz.func64, Tryz.ntmps64
    go_wp2_with fail
    go_loopw [3, 4] (fun m i wr => ∃ k : Nat, k ≤ n ∧ i = .int .i64 k ∧ m = .int .i64 ((1 + manyL (t.subs.take k) : Nat) : Int) ∧ Below (boxed w #[.int .i64 t.kind, .string t.pkg, .int .i64 t.major, .string t.mod, .string t.name, .slice An t.names.length cn, .slice As n cs]).heap.size (boxed w #[.int .i64 t.kind, .string t.pkg, .int .i64 t.major, .string t.mod, .string t.name, .slice An t.names.length cn, .slice As n cs]) wr) (fun _ i _ => n - (intOf i).toNat)
    case atStart => exact ⟨0, by omega, rfl, by simp [manyL], Below.refl _ _⟩
    case round =>
      obtain ⟨k, hk, rfl, rfl, hb⟩ := hrel
      obtain ⟨wo, rfl⟩ : ∃ wo : World, wo = wr := ⟨_, rfl⟩
      have b6 := box_cell hb 6
      simp at b6
      have HB := Lib.hid (box_below hb)
      have htk := manyL_take_le t.subs k
      by_cases hlt : k < n
      · obtain ⟨s, hs⟩ : ∃ s, t.subs[k]? = some s := ⟨_, List.getElem?_eq_getElem (by rw [HN.out]; exact hlt)⟩
        obtain ⟨g, o, v0, v1, v2, v3, v4, v5, v6, rfl, -, h0, h1, h2, h3, h4, h5, h6, hs7⟩ := HS.out.below HB.out k s hs
        have hsm := sub_many hs
        have T1 := Lib.hid (manyL_take t.subs k s hs)
        have htk1 := manyL_take_le t.subs (k + 1)
        have IH := Lib.hid (ih s (by omega) (by omega) (.agg #[v0, v1, v2, v3, v4, v5, v6]) wo ⟨_, rfl, hs7⟩)
        have hsz : many s ≤ 9000 := by omega
        clear hs7 hs hsm
        go_wp2_with fail
        refine IH.out.mono ?_; rintro e w2 ⟨rfl, hb2⟩
        have hb3 := below_over hb hb2
        clear b6 h0 h1 h2 h3 h4 h5 h6 hb hb2
        go_wp2_with fail
        go_roundw
        case rel => exact ⟨k + 1, by omega, by go_num, by rw [T1.out]; go_num, hb3⟩
        case measure => simp [intOf]; omega
      · have hkn : k = n := by omega
        have T0 : Hid (many t = 1 + manyL (t.subs.take k)) := Lib.hid (by rw [HE.out, List.take_of_length_le (by rw [HN.out]; omega)])
        go_wp2_with fail
        go_ret
        exact ⟨ret_int' (by rw [T0.out]), HB.out⟩

set_option maxHeartbeats 2000000 in
theorem deep_any (N : Nat) : ∀ (t : Ty), many t ≤ N → many t ≤ 9000 → ∀ (v : Value) (w : World), TyV w v t →
    Calls Tryz.prog 65 #[v] w fun e w' => e = .returned (.int .i64 (deep t : Nat)) ∧ Below w.heap.size w w' := by
  induction N with
  | zero => intro t h; have := many_pos t; omega
  | succ N ih =>
    intro t hN hM v w hv
    obtain ⟨l, rfl, hT⟩ := hv
    obtain ⟨An, cn, As, cs, rfl, -, -, -, hzn, hz, -, hS⟩ := hT.parts
    have HS := Lib.hid hS
    clear hT hS
    generalize hn : t.subs.length = n at hz
    have HN := Lib.hid hn
    clear hn
    have HE := Lib.hid (deep_eq t)
    have hdm : deepL t.subs ≤ 9000 := by have := deep_many t; have := HE.out; omega
    have htk : ∀ k, deepL (t.subs.take k) ≤ deepL t.subs := fun k => by
      conv => rhs; rw [← List.take_append_drop k t.subs, deepL_append]
      omega
    have HK := Lib.hid htk
    clear htk
    go_enter Tryz.func65, Tryz.ntmps65
    go_wp2_with fail
    go_loopw [3, 4] (fun m i wr => ∃ k : Nat, k ≤ n ∧ i = .int .i64 k ∧ m = .int .i64 ((deepL (t.subs.take k) : Nat) : Int) ∧ Below (boxed w #[.int .i64 t.kind, .string t.pkg, .int .i64 t.major, .string t.mod, .string t.name, .slice An t.names.length cn, .slice As n cs]).heap.size (boxed w #[.int .i64 t.kind, .string t.pkg, .int .i64 t.major, .string t.mod, .string t.name, .slice An t.names.length cn, .slice As n cs]) wr) (fun _ i _ => n - (intOf i).toNat)
    case atStart => exact ⟨0, by omega, rfl, by simp [deepL], Below.refl _ _⟩
    case round =>
      obtain ⟨k, hk, rfl, rfl, hb⟩ := hrel
      obtain ⟨wo, rfl⟩ : ∃ wo : World, wo = wr := ⟨_, rfl⟩
      have b6 := box_cell hb 6
      simp at b6
      have HB := Lib.hid (box_below hb)
      have htk := HK.out k
      by_cases hlt : k < n
      · skip
        obtain ⟨s, hs⟩ : ∃ s, t.subs[k]? = some s := ⟨_, List.getElem?_eq_getElem (by rw [HN.out]; exact hlt)⟩
        obtain ⟨g, o, v0, v1, v2, v3, v4, v5, v6, rfl, -, h0, h1, h2, h3, h4, h5, h6, hs7⟩ := HS.out.below HB.out k s hs
        have hsm := sub_many hs
        have T1 := Lib.hid (deepL_take t.subs k s hs)
        have htk1 := HK.out (k + 1)
        have hds := deep_many s
        have hsz : deep s ≤ 9000 := by omega
        have IH := Lib.hid (ih s (by omega) (by omega) (.agg #[v0, v1, v2, v3, v4, v5, v6]) wo ⟨_, rfl, hs7⟩)
        clear hs7 hs hsm hds
        by_cases hgt : deepL (t.subs.take k) < deep s
        · have T2 : Hid (deepL (t.subs.take (k + 1)) = deep s) := Lib.hid (by rw [T1.out]; omega)
          go_wp2_with fail
          refine IH.out.mono ?_; rintro e w2 ⟨rfl, hb2⟩
          have hb3 := below_over hb hb2
          clear b6 h0 h1 h2 h3 h4 h5 h6 hb hb2
          go_wp2_with fail
          go_roundw
          case rel => exact ⟨k + 1, by omega, by go_num, by rw [T2.out], hb3⟩
          case measure => simp [intOf]; omega
        · have T2 : Hid (deepL (t.subs.take (k + 1)) = deepL (t.subs.take k)) := Lib.hid (by rw [T1.out]; omega)
          go_wp2_with fail
          refine IH.out.mono ?_; rintro e w2 ⟨rfl, hb2⟩
          have hb3 := below_over hb hb2
          clear b6 h0 h1 h2 h3 h4 h5 h6 hb hb2
          go_wp2_with fail
          go_roundw
          case rel => exact ⟨k + 1, by omega, by go_num, by rw [T2.out], hb3⟩
          case measure => simp [intOf]; omega
      · have T0 : Hid (deep t = deepL (t.subs.take k) + 1) := Lib.hid (by rw [HE.out, List.take_of_length_le (by rw [HN.out]; omega)])
        go_wp2_with fail
        go_ret
        exact ⟨ret_int' (by rw [T0.out]; go_num), HB.out⟩

theorem few_eq (t : Ty) (most : Int) : fewT t most = if most - 1 < 0 ∨ 200 < t.names.length then -1 else fewL t.subs (most - 1) := by cases t; rfl
/-- What stands behind k of them: the rest may still be asked. -/
theorem fewL_take : ∀ (l : List Ty) (k : Nat) (most : Int), fewL l most = fewL (l.drop k) (fewL (l.take k) most)
  | [], k, most => by simp [fewL]
  | t :: r, 0, most => rfl
  | t :: r, k + 1, most => by
    show (if 0 ≤ most then fewL r (fewT t most) else most) = fewL (r.drop k) (if 0 ≤ most then fewL (r.take k) (fewT t most) else most)
    split
    · exact fewL_take r k _
    · rw [fewL_neg _ _ (by omega)]
theorem fewL_snoc (l : List Ty) (k : Nat) (t : Ty) (most : Int) (h : l[k]? = some t) (h0 : 0 ≤ fewL (l.take k) most) : fewL (l.take (k + 1)) most = fewT t (fewL (l.take k) most) := by
  have hk := (List.getElem?_eq_some_iff.1 h).1
  have e := fewL_take (l.take (k + 1)) k most
  rw [List.take_take, Nat.min_eq_left (by omega)] at e
  have d : (l.take (k + 1)).drop k = [t] := by
    rw [List.take_add_one, h, List.drop_append_of_le_length (by simp; omega), List.drop_eq_nil_of_le (List.length_take_le _ _)]
    rfl
  rw [e, d]
  show (if 0 ≤ _ then fewL [] _ else _) = _
  rw [if_pos h0]; rfl

set_option maxHeartbeats 2000000 in
theorem few_any (N : Nat) : ∀ (t : Ty), many t ≤ N → ∀ (most : Int), -1 ≤ most → most ≤ 3000 → ∀ (v : Value) (w : World), TyV w v t →
    Calls Tryz.prog 46 #[v, .int .i64 most] w fun e w' => e = .returned (.int .i64 (fewT t most)) ∧ Below w.heap.size w w' := by
  induction N with
  | zero => intro t h; have := many_pos t; omega
  | succ N ih =>
    intro t hN most hlo hhi v w hv
    obtain ⟨l, rfl, hT⟩ := hv
    obtain ⟨An, cn, As, cs, rfl, -, -, -, hzn, hz, -, hS⟩ := hT.parts
    have HS := Lib.hid hS
    clear hT hS
    generalize hn : t.subs.length = n at hz
    have HN := Lib.hid hn
    clear hn
    have HE := Lib.hid (few_eq t most)
    by_cases hm : most - 1 < 0
    · have R : Hid (fewT t most = -1) := Lib.hid (by rw [HE.out, if_pos (.inl hm)])
      rw [R.out]
      go_enter Tryz.func46, Tryz.ntmps46
      go_wp2_with fail
      go_ret
      exact ⟨rfl, below_new (Below.refl _ _) _⟩
    generalize hq : t.names.length = q at hzn HE
    by_cases hl : 200 < q
    · have R : Hid (fewT t most = -1) := Lib.hid (by rw [HE.out, if_pos (.inr hl)])
      have hl' : (200 : Int) < q := by omega
      rw [R.out]
      clear hq
      go_enter Tryz.func46, Tryz.ntmps46
      go_wp2_with fail
      go_ret
      exact ⟨rfl, below_new (Below.refl _ _) _⟩
    have HR : Hid (fewT t most = fewL t.subs (most - 1)) := Lib.hid (by rw [HE.out, if_neg (by omega)])
    have hl' : ¬ (200 : Int) < q := by omega
    clear HE hq
    go_enter Tryz.func46, Tryz.ntmps46
    go_wp2_with fail
    go_loopw [1, 5] (fun m i wr => ∃ k : Nat, k ≤ n ∧ i = .int .i64 k ∧ m = .int .i64 (fewL (t.subs.take k) (most - 1)) ∧ Below (boxed w #[.int .i64 t.kind, .string t.pkg, .int .i64 t.major, .string t.mod, .string t.name, .slice An q cn, .slice As n cs]).heap.size (boxed w #[.int .i64 t.kind, .string t.pkg, .int .i64 t.major, .string t.mod, .string t.name, .slice An q cn, .slice As n cs]) wr) (fun _ i _ => n - (intOf i).toNat)
    case atStart => exact ⟨0, by omega, rfl, by simp [fewL], Below.refl _ _⟩
    case round =>
      obtain ⟨k, hk, rfl, rfl, hb⟩ := hrel
      obtain ⟨wo, rfl⟩ : ∃ wo : World, wo = wr := ⟨_, rfl⟩
      have b6 := box_cell hb 6
      simp at b6
      have HB := Lib.hid (box_below hb)
      have bd := fewL_bd (t.subs.take k) (most - 1) (by omega)
      by_cases hlt : k < n
      · by_cases h0 : 0 ≤ fewL (t.subs.take k) (most - 1)
        · obtain ⟨s, hs⟩ : ∃ s, t.subs[k]? = some s := ⟨_, List.getElem?_eq_getElem (by rw [HN.out]; exact hlt)⟩
          obtain ⟨g, o, v0, v1, v2, v3, v4, v5, v6, rfl, -, h0', h1, h2, h3, h4, h5, h6, hs7⟩ := HS.out.below HB.out k s hs
          have hsm := sub_many hs
          have T1 := Lib.hid (fewL_snoc t.subs k s (most - 1) hs h0)
          have IH := Lib.hid (ih s (by omega) (fewL (t.subs.take k) (most - 1)) (by omega) (by omega) (.agg #[v0, v1, v2, v3, v4, v5, v6]) wo ⟨_, rfl, hs7⟩)
          clear hs7 hs hsm
          generalize fewL (t.subs.take k) (most - 1) = z at h0 IH T1 bd
          go_wp2_with fail
          refine IH.out.mono ?_; rintro e w2 ⟨rfl, hb2⟩
          have hb3 := below_over hb hb2
          clear b6 h0' h1 h2 h3 h4 h5 h6 hb hb2
          go_wp2_with fail
          go_roundw
          case rel => exact ⟨k + 1, by omega, by go_num, by rw [T1.out], hb3⟩
          case measure => simp [intOf]; omega
        · have T0 : Hid (fewT t most = fewL (t.subs.take k) (most - 1)) := Lib.hid (by rw [HR.out, fewL_take t.subs k, fewL_neg _ _ (by omega)])
          generalize fewL (t.subs.take k) (most - 1) = z at h0 T0 bd
          go_wp2_with fail
          go_ret
          exact ⟨ret_int' T0.out, HB.out⟩
      · have T0 : Hid (fewT t most = fewL (t.subs.take k) (most - 1)) := Lib.hid (by rw [HR.out, List.take_of_length_le (by rw [HN.out]; omega)])
        generalize fewL (t.subs.take k) (most - 1) = z at T0 bd
        go_wp2_with fail
        go_ret
        exact ⟨ret_int' T0.out, HB.out⟩

end Go.Proofs.YtpfoclpgcbjjoaaGreatDoor
