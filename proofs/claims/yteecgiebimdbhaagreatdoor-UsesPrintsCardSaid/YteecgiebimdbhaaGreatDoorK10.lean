/-
  Several texts in one.
-/
import Derived.Test.YteecgiebimdbhaaGreatDoorK09
import Derived.LaidEql
import Derived.Stop.Asserts
import Derived.RowKitTokens
import Derived.Lib.IfaceEq
import Derived.Laws.Pointers
set_option maxRecDepth 100000
set_option maxHeartbeats 4000000
namespace Go.Proofs.YteecgiebimdbhaaGreatDoor
open Go.RowKit Go.Extern.Stop Go.Stop Go.Extern
theorem sp_valueOfPP (t : Addr) (w : World) : (ReflectliteValue.unpack (.iface 91 (.pointer (some t)))).run Tryz.prog w
    = .ok (.agg #[.pointer (some ⟨7, 91, none⟩), .pointer (some ⟨w.heap.size, 0, none⟩), .int .u64 150]) (w.alloc (.cells #[.pointer (some t)] 91)) := by kernel_rfl
theorem sp_typePP (a : Addr) (w : World) : (ReflectliteValue.methodAny (ReflectliteValue.valueError "reflectlite.Value.Type" 0) (fun t _ _ _ => ReflectliteType.toType t) #[.agg #[.pointer (some ⟨7, 91, none⟩), .pointer (some a), .int .u64 150]]).run Tryz.prog w
    = .ok (.iface 172 (.agg #[.pointer (some ⟨7, 91, none⟩)])) w := by kernel_rfl
theorem sp_methodKind (h : Value) (w : World) : (Go.method 486 172 (.agg #[h]) "Kind").run Tryz.prog w = .ok (336, h) w := by kernel_rfl
theorem sp_kindPP (w : World) : ((ReflectliteType.abiMethod fun t => (fun a : Nat => Value.int IntKind.u8 (a : Int)) <$> Rtype.kind t) #[.pointer (some ⟨7, 91, none⟩)]).run Tryz.prog w = .ok (.int .u8 22) w := by kernel_rfl
theorem sp_kindP (w : World) : ((ReflectliteType.abiMethod fun t => (fun a : Nat => Value.int IntKind.u8 (a : Int)) <$> Rtype.kind t) #[.pointer (some ⟨7, 89, none⟩)]).run Tryz.prog w = .ok (.int .u8 22) w := by kernel_rfl
theorem rl_method (z : Sem Value) (f : TypeId -> Addr -> Nat -> Nat -> Sem Value) (v : Value) :
    ReflectliteValue.method z f #[v] = (do match <- ReflectliteValue.parts v with | none => z | some (t, a, fl) => f t a fl (fl % 32)) := rfl
theorem sp_partsPP (a : Addr) (w : World) : (ReflectliteValue.parts (.agg #[.pointer (some ⟨7, 91, none⟩), .pointer (some a), .int .u64 150])).run Tryz.prog w = .ok (some (91, a, 150)) w := by kernel_rfl
theorem sp_isNilPP (a p : Addr) (W : World) (ha : W.cell? a = some (.pointer (some p))) :
    (ReflectliteValue.method (ReflectliteValue.valueError "reflectlite.Value.IsNil" 0) ReflectliteValue.isNil #[.agg #[.pointer (some ⟨7, 91, none⟩), .pointer (some a), .int .u64 150]]).run Tryz.prog W = .ok (.bool false) W := by
  rw [rl_method];simp only [Sem.run_bind, sp_partsPP, Result.andThen];simp [ReflectliteValue.isNil, loadVar, isAgg, underlying, Tryz.underlying91, ha, Result.andThen]
theorem sp_methodElem (h : Value) (w : World) : (Go.method 486 172 (.agg #[h]) "Elem").run Tryz.prog w = .ok (349, .agg #[h]) w := by kernel_rfl
theorem sp_methodImplements (h : Value) (w : World) : (Go.method 486 172 (.agg #[h]) "Implements").run Tryz.prog w = .ok (350, .agg #[h]) w := by kernel_rfl
theorem sp_methodAssignableTo (h : Value) (w : World) : (Go.method 486 172 (.agg #[h]) "AssignableTo").run Tryz.prog w = .ok (347, .agg #[h]) w := by kernel_rfl
theorem sp_elemPP (w : World) : (ReflectliteType.method ReflectliteType.elem #[.agg #[.pointer (some ⟨7, 91, none⟩)]]).run Tryz.prog w = .ok (.iface 172 (.agg #[.pointer (some ⟨7, 89, none⟩)])) w := by kernel_rfl
theorem sp_implements (w : World) : (ReflectliteType.relation "Implements" ReflectliteType.implements_ #[.agg #[.pointer (some ⟨7, 89, none⟩)], .iface 172 (.agg #[.pointer (some ⟨7, 29, none⟩)])]).run Tryz.prog w = .ok (.bool true) w := by kernel_rfl
theorem sp_typeOfP (v : Value) (w : World) : (ReflectliteType.typeOf #[.iface 89 v]).run Tryz.prog w = .ok (.iface 172 (.agg #[.pointer (some ⟨7, 89, none⟩)])) w := by kernel_rfl
theorem sp_assignable (w : World) : (ReflectliteType.relation "AssignableTo" ReflectliteType.assignableTo #[.agg #[.pointer (some ⟨7, 89, none⟩)], .iface 172 (.agg #[.pointer (some ⟨7, 89, none⟩)])]).run Tryz.prog w = .ok (.bool true) w := by kernel_rfl
theorem sp_valueOfP (e : Addr) (w : World) : (ReflectliteValue.unpack (.iface 89 (.pointer (some e)))).run Tryz.prog w
    = .ok (.agg #[.pointer (some ⟨7, 89, none⟩), .pointer (some ⟨w.heap.size, 0, none⟩), .int .u64 150]) (w.alloc (.cells #[.pointer (some e)] 89)) := by kernel_rfl
theorem sp_elemOfPP (w : World) : (Rtype.elem? 91).run Tryz.prog w = .ok (some 89) w := by kernel_rfl
theorem sp_mkP (p : Addr) (w : World) : (ReflectliteValue.mk 89 p ReflectliteValue.flagAddr).run Tryz.prog w = .ok (.agg #[.pointer (some ⟨7, 89, none⟩), .pointer (some p), .int .u64 406]) w := by kernel_rfl
theorem sp_elemVPP (a p : Addr) (W : World) (ha : W.cell? a = some (.pointer (some p))) :
    (ReflectliteValue.method (ReflectliteValue.valueError "reflectlite.Value.Elem" 0) ReflectliteValue.elem #[.agg #[.pointer (some ⟨7, 91, none⟩), .pointer (some a), .int .u64 150]]).run Tryz.prog W
      = .ok (.agg #[.pointer (some ⟨7, 89, none⟩), .pointer (some p), .int .u64 406]) W := by
  rw [rl_method];simp only [Sem.run_bind, sp_partsPP, Result.andThen];simp [ReflectliteValue.elem, loadVar, isAgg, underlying, Tryz.underlying91, ha, Result.andThen, sp_elemOfPP, sp_mkP]
theorem rl_set (v x : Value) : ReflectliteValue.set #[v, x] = (do
    let (some (dst, a, fl), some (src, b, _)) := (<- ReflectliteValue.parts v, <- ReflectliteValue.parts x)
      | unsupported (.noEntry "extern/(internal/reflectlite.Value).Set.zeroValue")
    if fl / ReflectliteValue.flagAddr % 2 == 0 then unsupported (.noEntry "extern/(internal/reflectlite.Value).Set.unaddressable")
    let val <- loadVar src b
    if <- Rtype.directlyAssignable dst src then storeVar dst a val
    else if <- Rtype.implements dst src then
      if (<- Rtype.kind src) == 20 then
        match val with
        | .nilIface => unsupported (.noEntry "extern/reflectlite: a nil value of one interface type handed on as a value of another")
        | _ => storeVar dst a val
      else storeVar dst a (.iface src val)
    else panicString ("reflectlite.Set: value of type " ++ (<- Rtype.spelt src) ++ " is not assignable to type " ++ (<- Rtype.spelt dst))
    pure (.tuple #[])) := rfl
theorem sp_partsA (a : Addr) (w : World) : (ReflectliteValue.parts (.agg #[.pointer (some ⟨7, 89, none⟩), .pointer (some a), .int .u64 406])).run Tryz.prog w = .ok (some (89, a, 406)) w := by kernel_rfl
theorem sp_partsB (a : Addr) (w : World) : (ReflectliteValue.parts (.agg #[.pointer (some ⟨7, 89, none⟩), .pointer (some a), .int .u64 150])).run Tryz.prog w = .ok (some (89, a, 150)) w := by kernel_rfl
theorem sp_direct (w : World) : (Rtype.directlyAssignable 89 89).run Tryz.prog w = .ok true w := by kernel_rfl
theorem sp_set (ta b e : Addr) (old : Value) (W : World) (hb : W.cell? b = some (.pointer (some e))) (ht : W.cell? ta = some old) (hf : W.frozen? ta = false) :
    (ReflectliteValue.set #[.agg #[.pointer (some ⟨7, 89, none⟩), .pointer (some ta), .int .u64 406], .agg #[.pointer (some ⟨7, 89, none⟩), .pointer (some b), .int .u64 150]]).run Tryz.prog W
      = .ok (.tuple #[]) (W.setCell ta (.pointer (some e))) := by
  rw [rl_set];simp only [Sem.run_bind, sp_partsA, sp_partsB, Result.andThen];simp [ReflectliteValue.flagAddr, loadVar, isAgg, underlying, Tryz.underlying89, hb, Result.andThen, sp_direct, storeVar, Value.cells, storeCells, Addr.add];rw [run_store Tryz.prog W ta _ _ (by rfl)];simp [ht, hf]
def ErrT (w : World) : Prop := w.cell? ⟨0, 0, none⟩ = some (.iface 172 (.agg #[.pointer (some ⟨7, 29, none⟩)]))
theorem ErrT.lt {w : World} (h : ErrT w) : 0 < w.heap.size := by
  rcases Nat.lt_or_ge 0 w.heap.size with h0 | h0
  · exact h0
  · unfold ErrT at h
    simp [World.cell?, Array.getElem?_eq_none h0] at h
theorem ErrT.on {w w' : World} (h : ErrT w) (hb : Below w.heap.size w w') : ErrT w' := (hb.cell (p := ⟨0, 0, none⟩) h.lt).trans h
theorem as_spot (e t : Addr) (old : Value) (w : World) (hg : ErrT w) (ht0 : w.cell? t = some old) (hf0 : w.frozen? t = false) :
    Calls Tryz.prog 42 #[.iface 89 (.pointer (some e)), .iface 91 (.pointer (some t))] w fun ev w' => ev = .returned (.bool true) /\ w' = ((((w.alloc (.cells #[.pointer (some t)] 91)).alloc (.cells #[.pointer (some ⟨7, 91, none⟩), .pointer (some ⟨w.heap.size, 0, none⟩), .int .u64 150] 126)).alloc (.cells #[.pointer (some ⟨7, 91, none⟩), .pointer (some ⟨w.heap.size, 0, none⟩), .int .u64 150] 126)).alloc (.cells #[.pointer (some e)] 89)).setCell t (.pointer (some e)) := by
  have h6 := @run_callFunc_extern Tryz.prog 74 _ (fun args => ReflectliteValue.unpack (args.getD 0 (.tuple #[]))) Tryz.func74 (by kernel_rfl) (by kernel_rfl) (by kernel_rfl) (by kernel_rfl);have h7 := @run_callFunc_extern Tryz.prog 75 _ (ReflectliteValue.methodAny (ReflectliteValue.valueError "reflectlite.Value.Type" 0) (fun t _ _ _ => ReflectliteType.toType t)) Tryz.func75 (by kernel_rfl) (by kernel_rfl) (by kernel_rfl) (by kernel_rfl);have h8 := @run_callFunc_extern Tryz.prog 76 _ (ReflectliteValue.method (ReflectliteValue.valueError "reflectlite.Value.IsNil" 0) ReflectliteValue.isNil) Tryz.func76 (by kernel_rfl) (by kernel_rfl) (by kernel_rfl) (by kernel_rfl);have h27 := @run_callFunc_extern Tryz.prog 336 _ (ReflectliteType.abiMethod fun t => do pure (.int .u8 (<- Rtype.kind t))) Tryz.func336 (by kernel_rfl) (by kernel_rfl) (by kernel_rfl) (by kernel_rfl);have h37 := @run_callFunc_extern Tryz.prog 349 _ (ReflectliteType.method ReflectliteType.elem) Tryz.func349 (by kernel_rfl) (by kernel_rfl) (by kernel_rfl) (by kernel_rfl);have h38 := @run_callFunc_extern Tryz.prog 350 _ (ReflectliteType.relation "Implements" ReflectliteType.implements_) Tryz.func350 (by kernel_rfl) (by kernel_rfl) (by kernel_rfl) (by kernel_rfl);have h10 := @run_callFunc_extern Tryz.prog 78 _ ReflectliteType.typeOf Tryz.func78 (by kernel_rfl) (by kernel_rfl) (by kernel_rfl) (by kernel_rfl);have h35 := @run_callFunc_extern Tryz.prog 347 _ (ReflectliteType.relation "AssignableTo" ReflectliteType.assignableTo) Tryz.func347 (by kernel_rfl) (by kernel_rfl) (by kernel_rfl) (by kernel_rfl);have h11 := @run_callFunc_extern Tryz.prog 116 _ (ReflectliteValue.method (ReflectliteValue.valueError "reflectlite.Value.Elem" 0) ReflectliteValue.elem) Tryz.func116 (by kernel_rfl) (by kernel_rfl) (by kernel_rfl) (by kernel_rfl);have h12 := @run_callFunc_extern Tryz.prog 117 _ ReflectliteValue.set Tryz.func117 (by kernel_rfl) (by kernel_rfl) (by kernel_rfl) (by kernel_rfl);have tO := sp_typeOfP;have mA := sp_methodAssignableTo;have a25 := sp_assignable;have v25 := sp_valueOfP;have f6 := sp_valueOfPP;have f7 := sp_typePP;have mK := sp_methodKind;have mE := sp_methodElem;have mI := sp_methodImplements;have k27 := sp_kindPP;have k25 := sp_kindP;have e27 := sp_elemPP;have i25 := sp_implements;have n8 := sp_isNilPP ⟨w.heap.size, 0, none⟩ t ((w.alloc (.cells #[.pointer (some t)] 91)).alloc (.cells #[.pointer (some ⟨7, 91, none⟩), .pointer (some ⟨w.heap.size, 0, none⟩), .int .u64 150] 126)) (by simp);have hlt : 0 < w.heap.size := hg.lt
  have hg2 : ((w.alloc (.cells #[.pointer (some t)] 91)).alloc (.cells #[.pointer (some ⟨7, 91, none⟩), .pointer (some ⟨w.heap.size, 0, none⟩), .int .u64 150] 126)).cell? ⟨0, 0, none⟩ = some (.iface 172 (.agg #[.pointer (some ⟨7, 29, none⟩)])) := by
    rw [World.cell?_alloc_lt _ _ ⟨0, 0, none⟩ (by simp <;> omega), World.cell?_alloc_lt _ _ ⟨0, 0, none⟩ hlt]; exact hg
  have htl : t.block < w.heap.size := by
    rcases Nat.lt_or_ge t.block w.heap.size with h | h
    · exact h
    · simp [World.cell?, Array.getElem?_eq_none h] at ht0
  have el := sp_elemVPP ⟨w.heap.size, 0, none⟩ t (((w.alloc (.cells #[.pointer (some t)] 91)).alloc (.cells #[.pointer (some ⟨7, 91, none⟩), .pointer (some ⟨w.heap.size, 0, none⟩), .int .u64 150] 126)).alloc (.cells #[.pointer (some ⟨7, 91, none⟩), .pointer (some ⟨w.heap.size, 0, none⟩), .int .u64 150] 126)) (by rw [World.cell?_alloc_lt _ _ ⟨w.heap.size, 0, none⟩ (by simp; omega)]; simp)
  have st := sp_set t ⟨w.heap.size + 1 + 1 + 1, 0, none⟩ e old ((((w.alloc (.cells #[.pointer (some t)] 91)).alloc (.cells #[.pointer (some ⟨7, 91, none⟩), .pointer (some ⟨w.heap.size, 0, none⟩), .int .u64 150] 126)).alloc (.cells #[.pointer (some ⟨7, 91, none⟩), .pointer (some ⟨w.heap.size, 0, none⟩), .int .u64 150] 126)).alloc (.cells #[.pointer (some e)] 89))
    (by rw [World.cell?_alloc_at _ _ _ _ (by simp)]; rfl)
    (by rw [World.cell?_alloc_lt _ _ t (by simp; omega), World.cell?_alloc_lt _ _ t (by simp; omega), World.cell?_alloc_lt _ _ t (by simp; omega), World.cell?_alloc_lt _ _ t htl]; exact ht0)
    (by rw [World.frozen?_alloc_old _ _ t (by simp; omega), World.frozen?_alloc_old _ _ t (by simp; omega), World.frozen?_alloc_old _ _ t (by simp; omega), World.frozen?_alloc_old _ _ t (Nat.ne_of_lt htl)]; exact hf0)
  go_enter Tryz.func42, Tryz.ntmps42
  go_wp2
  refine wp_loop_rounds 1 ?_;rw [rounds_succ];go_wp2
  go_ret;exact ⟨rfl, rfl⟩
theorem sp_typeOfC (v : Value) (w : World) : (ReflectliteType.typeOf #[.iface 32 v]).run Tryz.prog w = .ok (.iface 172 (.agg #[.pointer (some ⟨7, 32, none⟩)])) w := by kernel_rfl
theorem sp_methodComparable (h : Value) (w : World) : (Go.method 486 172 (.agg #[h]) "Comparable").run Tryz.prog w = .ok (348, .agg #[h]) w := by kernel_rfl
theorem sp_comparableC (w : World) : ((ReflectliteType.method fun t => do Rtype.noPackHeld "Comparable" t; (fun a => Value.bool a.comparable) <$> typeInfo t) #[.agg #[.pointer (some ⟨7, 32, none⟩)]]).run Tryz.prog w = .ok (.bool true) w := by kernel_rfl
theorem sp_comp : (Tryz.prog.info? 32).map (·.comparable) = some true := by kernel_rfl
theorem sp_noIs (v : Value) (xT : TypeId) (w : World) : (Instr.typeAssert (.iface 89 v) xT 184 true).run Tryz.prog w = .ok (.tuple #[.nilIface, .bool false]) w := run_typeAssert_lacksB Tryz.underlying184 (by kernel_rfl) (by kernel_rfl) v xT w
theorem sp_hasUnwrap (v : Value) (xT : TypeId) (w : World) : (Instr.typeAssert (.iface 89 v) xT 179 true).run Tryz.prog w = .ok (.tuple #[.iface 89 v, .bool true]) w := run_typeAssert_hasB Tryz.underlying179 (by kernel_rfl) v xT w
theorem sp_methodUnwrap (v : Value) (w : World) : (Go.method 486 89 v "Unwrap").run Tryz.prog w = .ok (342, v) w := by kernel_rfl
theorem is_spot (b : Nat) (c : Int) (w : World) (h1 : w.cell? ⟨b, 1, none⟩ = some (.iface 32 (.int .i64 c))) :
    Calls Tryz.prog 43 #[.iface 89 (.pointer (some ⟨b, 0, none⟩)), .iface 32 (.int .i64 c)] w fun e w' => e = .returned (.bool true) /\ w' = w := by
  have h8 := @run_callFunc_extern Tryz.prog 78 _ ReflectliteType.typeOf Tryz.func78 (by kernel_rfl) (by kernel_rfl) (by kernel_rfl) (by kernel_rfl);have h32 := @run_callFunc_extern Tryz.prog 348 _ (ReflectliteType.method fun t => do Rtype.noPackHeld "Comparable" t; pure (.bool (<- typeInfo t).comparable)) Tryz.func348 (by kernel_rfl) (by kernel_rfl) (by kernel_rfl) (by kernel_rfl);have tT := sp_typeOfC;have cT := sp_comparableC;have mR := sp_methodComparable;have nE := sp_noIs;have uW := sp_hasUnwrap;have mU := sp_methodUnwrap;have heq := Lib.run_eql_iface_int (P := Tryz.prog) (k := .i64) w c c Tryz.underlying29 sp_comp Tryz.underlying32;have hty := run_eql_iface_types (P := Tryz.prog) 89 32 (.pointer (some ⟨b, 0, none⟩)) (.int .i64 c) Tryz.underlying29 (by decide) w;go_enter Tryz.func43, Tryz.ntmps43
  go_wp2
  refine wp_loop_rounds 2 ?_;rw [rounds_succ];go_wp2
  rw [rounds_succ];go_wp2
  go_ret;exact ⟨rfl, rfl⟩
end Go.Proofs.YteecgiebimdbhaaGreatDoor
namespace Go.Proofs.YteecgiebimdbhaaGreatDoor
open Go.RowKit
theorem sp_compP : (Tryz.prog.info? 89).map (·.comparable) = some true := by kernel_rfl
theorem sp_sizeS : (Tryz.prog.info? 94).map (·.size) = some 2 := by kernel_rfl
theorem sp_eqSame (a : Addr) (w : World) : (binOp .eql 29 (.iface 89 (.pointer (some a))) (.iface 89 (.pointer (some a)))).run Tryz.prog w = .ok (.bool true) w := by
  obtain ⟨i, hi, hcmp⟩ := Option.map_eq_some_iff.1 sp_compP;obtain ⟨j, hj, -⟩ := Option.map_eq_some_iff.1 sp_sizeS;exact run_eql_iface_ptr_same (P := Tryz.prog) w a Tryz.underlying29 Tryz.underlying89 hi hcmp hj
theorem sp_neSame (a : Addr) (w : World) : (binOp .neq 29 (.iface 89 (.pointer (some a))) (.iface 89 (.pointer (some a)))).run Tryz.prog w = .ok (.bool false) w := by
  have h := sp_eqSame a w;simp only [binOp] at h ⊢;cases he : (Op.equal 29 (.iface 89 (.pointer (some a))) (.iface 89 (.pointer (some a)))).run Tryz.prog w <;> simp_all [Result.andThen]
theorem sp_eqCode (a b : Int) (w : World) : (binOp .eql 29 (.iface 32 (.int .i64 a)) (.iface 32 (.int .i64 b))).run Tryz.prog w = .ok (.bool (a == b)) w :=
  Lib.run_eql_iface_int (P := Tryz.prog) (k := .i64) w a b Tryz.underlying29 sp_comp Tryz.underlying32
theorem cell_on {w W : World} {b o : Nat} {v : Value} (hb : Below w.heap.size w W) (h : b < w.heap.size) (h1 : w.cell? ⟨b, o, none⟩ = some v) : W.cell? ⟨b, o, none⟩ = some v := (hb.cell (p := ⟨b, o, none⟩) h).trans h1
theorem as_below (e : Addr) (w W : World) (old : Value) (hg : ErrT W) (hb : Below w.heap.size w W) (ht : W.cell? ⟨w.heap.size, 0, none⟩ = some old) (hf : W.frozen? ⟨w.heap.size, 0, none⟩ = false) :
    Calls Tryz.prog 42 #[.iface 89 (.pointer (some e)), .iface 91 (.pointer (some ⟨w.heap.size, 0, none⟩))] W fun ev w' => ev = .returned (.bool true) /\ w'.cell? ⟨w.heap.size, 0, none⟩ = some (.pointer (some e)) /\ Below w.heap.size w w' := by
  have hlt : w.heap.size < W.heap.size := by
    rcases Nat.lt_or_ge w.heap.size W.heap.size with h | h
    · exact h
    · simp [World.cell?, Array.getElem?_eq_none h] at ht
  refine (as_spot e _ old W hg ht hf).mono ?_;rintro ev w' ⟨rfl, rfl⟩;refine ⟨rfl, ?_, ?_⟩
  · exact World.cell?_setCell_same' _ _ _ (by
      rw [World.cell?_alloc_lt _ _ _ (by simp; omega), World.cell?_alloc_lt _ _ _ (by simp; omega), World.cell?_alloc_lt _ _ _ (by simp; omega), World.cell?_alloc_lt _ _ _ hlt, ht]; rfl)
  · repeat (first | exact hb | with_reducible refine below_new ?_ _ | with_reducible refine below_put ?_ (by simp <;> omega) _)
theorem isSpot_any (b : Nat) (p c : Int) (w : World) (hg : ErrT w) (hb : b < w.heap.size) (h0 : w.cell? ⟨b, 0, none⟩ = some (.int .i64 p)) (h1 : w.cell? ⟨b, 1, none⟩ = some (.iface 32 (.int .i64 c))) :
    Calls Tryz.prog 16 #[.iface 89 (.pointer (some ⟨b, 0, none⟩)), .int .i64 p, .int .i64 c] w fun e w' => e = .returned (.bool true) /\ Below w.heap.size w w' := by
  have HB := hZ hb;have H0 := hZ h0;have H1 := hZ h1;clear hb h0 h1;have hne := sp_neSame ⟨b, 0, none⟩;have heq := sp_eqCode c c;go_enter Tryz.func16, Tryz.ntmps16
  go_wp2_with fail
  refine (as_below _ w _ (.pointer none) (hg.on (below_new (Below.refl _ _) _)) (below_new (Below.refl _ _) _) (by go_simp) (by go_simp)).mono ?_; rintro e w1 ⟨rfl, ct, hb1⟩
  have c0 := cell_on hb1 HB.out H0.out;have c1 := cell_on hb1 HB.out H1.out;go_wp2_with fail
  refine (is_spot _ c _ c1).mono ?_; rintro e w' ⟨rfl, rfl⟩
  go_wp2
  go_ret;exact ⟨rfl, hb1⟩
end Go.Proofs.YteecgiebimdbhaaGreatDoor
namespace Go.Proofs.YteecgiebimdbhaaGreatDoor
open Go.RowKit
open Go.Sort
open M
def mayM (m : Mo) : Bool := smallB m.name.data.toList && (decide (m.imps.length <= 20) && (decide (m.decs.length <= 60) && (m.imps.all mayI && m.decs.all mayD)))
theorem all_snoc {α : Type} (p : α -> Bool) (l : List α) (j : Nat) (x : α) (h : l[j]? = some x) : (l.take (j + 1)).all p = ((l.take j).all p && p x) := by
  rw [List.take_add_one, h, List.all_append]; simp
theorem csmall_b (s : ByteArray) (w : World) (hs : s.size <= 9223372036854775807) : Calls Tryz.prog 62 #[.string s] w fun e w' => e = .returned (.bool (smallB s.data.toList)) /\ Below w.heap.size w w' :=
  (small_any s w hs).mono fun e w' ⟨h, hw⟩ => ⟨h, by rw [<- hw]; exact Below.refl _ _⟩
theorem cgreat_b (s : ByteArray) (w : World) (hs : s.size <= 9223372036854775807) : Calls Tryz.prog 96 #[.string s] w fun e w' => e = .returned (.bool (greatB s.data.toList)) /\ Below w.heap.size w w' :=
  (great_any s w hs).mono fun e w' ⟨h, hw⟩ => ⟨h, by rw [<- hw]; exact Below.refl _ _⟩
theorem cmayNotI_any (x : Im) (w : World) (z0 : x.pkg.size <= 9223372036854775807) (z1 : x.mod.size <= 9223372036854775807) (z2 : x.asn.size <= 9223372036854775807) :
    Calls Tryz.prog 59 #[.agg #[.string x.pkg, .int .i64 x.major, .string x.mod, .string x.asn]] w fun e w' => e = .returned (.bool (!mayI x)) /\ Below w.heap.size w w' := by
  obtain ⟨w0, hw0⟩ : ∃ w0, w0 = w.alloc (.cells #[.string x.pkg, .int .i64 x.major, .string x.mod, .string x.asn] 71) := ⟨_, rfl⟩;have B0 : Below w.heap.size w w0 := by rw [hw0]; exact below_new (Below.refl _ _) _
  have O0 : w0.heap[w.heap.size]? = some (.cells #[.string x.pkg, .int .i64 x.major, .string x.mod, .string x.asn] 71 (0, 0)) := by rw [hw0]; exact heap_alloc_new w _
  have hl0 : w.heap.size < w0.heap.size := by rw [hw0]; simp
  obtain ⟨V, hV⟩ : ∃ V, (!mayI x) = V := ⟨_, rfl⟩;rw [hV];have HV : Hid ((!(smallB x.pkg.data.toList && (smallB x.mod.data.toList && (smallB x.asn.data.toList && (decide (1 <= x.major) && decide (x.major <= 999999999)))))) = V) := hZ hV;have S0 := hZ (fun w => csmall_b x.pkg w z0);have S1 := hZ (fun w => csmall_b x.mod w z1);have S2 := hZ (fun w => csmall_b x.asn w z2);generalize smallB x.pkg.data.toList = b0 at S0 HV
  generalize smallB x.mod.data.toList = b1 at S1 HV
  generalize smallB x.asn.data.toList = b2 at S2 HV
  have x0 := cZ O0 0;simp at x0;have HO := hZ O0;have HB := hZ B0;have HW0 := hZ hw0;clear hw0 B0 O0 hV z0 z1 z2;go_enter Tryz.func59, Tryz.ntmps59
  go_upto_region 1 with fail
  rw [<- HW0.out];clear HW0;go_wp2_with fail
  refine (S0.out _).mono ?_; rintro e w1 ⟨rfl, hb1⟩
  have O1 := (hb1.block _ hl0).trans HO.out;have x1 := cZ O1 1;have x2 := cZ O1 2;simp at x1 x2;have HB1 := hZ (below_over HB.out hb1);have hl1 := Nat.lt_of_lt_of_le hl0 hb1.size;clear x0 hb1 HO HB S0;cases b0 with
  | false =>
    go_wp2_with fail
    go_ret;exact ⟨by rw [<- HV.out]; rfl, HB1.out⟩
  | true =>
  by_cases hm : x.major < 1
  · have e1 : decide (1 <= x.major) = false := by simp; omega
    go_wp2_with fail
    go_ret;exact ⟨by rw [<- HV.out, e1]; simp, HB1.out⟩
  by_cases hm2 : 999999999 < x.major
  · have e1 : decide (x.major <= 999999999) = false := by simp; omega
    go_wp2_with fail
    go_ret;exact ⟨by rw [<- HV.out, e1]; simp, HB1.out⟩
  have HV1 : Hid ((!(b1 && b2)) = V) := hZ (by
    rw [<- HV.out, decide_eq_true (show 1 <= x.major by omega), decide_eq_true (show x.major <= 999999999 by omega)]; simp)
  clear HV;go_wp2_with fail
  refine (S1.out _).mono ?_; rintro e w2 ⟨rfl, hb2⟩
  have O2 := (hb2.block _ hl1).trans O1;have x3 := cZ O2 3;simp at x3;have HB2 := hZ (below_over HB1.out hb2);clear x1 x2 hb2 O1 O2 S1 HB1;cases b1 with
  | false =>
    go_wp2_with fail
    go_ret;exact ⟨by rw [<- HV1.out]; rfl, HB2.out⟩
  | true =>
    go_wp2_with fail
    refine (S2.out _).mono ?_; rintro e w3 ⟨rfl, hb3⟩
    have HB3 := hZ (below_over HB2.out hb3);clear hb3 x3 S2 HB2;go_wp2_with fail
    go_ret;exact ⟨by rw [<- HV1.out]; cases b2 <;> simp <;> omega, HB3.out⟩
theorem indexI_any (A : Option Addr) (c n : Nat) (xs : List Im) (w : World) (hn : xs.length = n) (hz : n <= 9223372036854775807) (hS : RowIn imR w A xs) :
    Calls Tryz.prog 95 #[.slice A n c, .func (.func 59) #[] #[]] w fun e w' => ∃ r : Int, e = .returned (.int .i64 r) /\ decide (0 <= r) = !xs.all mayI /\ Below w.heap.size w w' := by
  have HS := hZ hS;have HN := hZ hn;clear hS hn;go_enter Tryz.func95, Tryz.ntmps95
  go_wp2_with fail
  go_loopw [8] (fun i wr => ∃ k : Nat, k <= n /\ i = .int .i64 k /\ Hid ((xs.take k).all mayI = true) /\ Below w.heap.size w wr) (fun i _ => n - (intOf i).toNat)
  case atStart => exact ⟨0, by omega, rfl, hZ (by simp), Below.refl _ _⟩
  case round =>
    obtain ⟨k, hk, rfl, HP, hb⟩ := hrel;obtain ⟨wo, rfl⟩ : ∃ wo : World, wo = wr := ⟨_, rfl⟩;by_cases hlt : k < n
    · obtain ⟨x, hx⟩ : ∃ x, xs[k]? = some x := ⟨_, List.getElem?_eq_getElem (by rw [HN.out]; exact hlt)⟩
      obtain ⟨g, o, rfl, -, a0, a1, a2, a3, y1, y2, y3⟩ := (HS.out.below hb).im hx;have IM := hZ (cmayNotI_any x wo y1 y2 y3);have HX := hZ hx;clear hx y1 y2 y3;obtain ⟨q, hq⟩ : ∃ q, mayI x = q := ⟨_, rfl⟩;rw [hq] at IM;have HQ := hZ hq;clear hq;cases q with
      | false =>
        have R : Hid (decide (0 <= (k : Int)) = !xs.all mayI) := hZ (by
          have : xs.all mayI = false := by rw [List.all_eq_false]; exact ⟨x, List.mem_of_getElem? HX.out, by rw [HQ.out]; decide⟩
          rw [this]; simp)
        go_wp2_with fail
        refine IM.out.mono ?_; rintro e w2 ⟨rfl, hb2⟩
        have hb3 := below_over hb hb2;clear a0 a1 a2 a3 hb hb2;go_wp2_with fail
        go_ret;exact ⟨_, rfl, R.out, hb3⟩
      | true =>
        go_wp2_with fail
        refine IM.out.mono ?_; rintro e w2 ⟨rfl, hb2⟩
        have hb3 := below_over hb hb2;clear a0 a1 a2 a3 hb hb2;go_wp2_with fail
        go_roundw
        case rel => exact ⟨k + 1, by omega, by go_num, hZ (by rw [all_snoc _ _ _ _ HX.out, HP.out, HQ.out]; rfl), hb3⟩
        case measure => simp [intOf]; omega
    · have R : Hid (decide (0 <= (-1 : Int)) = !xs.all mayI) := hZ (by
        have h := HP.out;rw [List.take_of_length_le (by rw [HN.out]; omega)] at h;rw [h]; rfl)
      go_wp2_with fail
      go_ret;exact ⟨_, rfl, R.out, hb⟩
theorem containsI_any (A : Option Addr) (c n : Nat) (xs : List Im) (w : World) (hn : xs.length = n) (hz : n <= 9223372036854775807) (hS : RowIn imR w A xs) :
    Calls Tryz.prog 58 #[.slice A n c, .func (.func 59) #[] #[]] w fun e w' => e = .returned (.bool (!xs.all mayI)) /\ Below w.heap.size w w' := by
  have HC := hZ (indexI_any A c n xs w hn hz hS);clear hn hS;go_enter Tryz.func58, Tryz.ntmps58
  go_wp2_with fail
  refine HC.out.mono ?_; rintro e w2 ⟨r, rfl, hr, hb2⟩
  have HR := hZ hr;clear hr HC;go_wp2_with fail
  go_ret;exact ⟨ret_bool HR.out.symm, hb2⟩
theorem cmayI_any (A : Option Addr) (c n : Nat) (xs : List Im) (w : World) (hn : xs.length = n) (hz : n <= 9223372036854775807) (hS : RowIn imR w A xs) :
    Calls Tryz.prog 29 #[.slice A n c] w fun e w' => e = .returned (.bool (decide (n <= 20) && xs.all mayI)) /\ Below w.heap.size w w' := by
  have HC := hZ (containsI_any A c n xs w hn hz hS);clear hn hS;generalize xs.all mayI = q at HC
  by_cases h : n <= 20
  · have e1 : (n : Int) <= 20 := by omega
    have e2 : decide (n <= 20) = true := by simp [h]
    rw [e2];clear e2 h;go_enter Tryz.func29, Tryz.ntmps29
    go_wp2_with fail
    refine HC.out.mono ?_; rintro e w2 ⟨rfl, hb2⟩
    cases q
    all_goals (go_wp2_with fail; go_ret; exact ⟨rfl, hb2⟩)
  · have e1 : ¬ (n : Int) <= 20 := by omega
    have e2 : decide (n <= 20) = false := by simp; omega
    rw [e2];clear e2 h HC;go_enter Tryz.func29, Tryz.ntmps29
    go_wp2_with fail
    go_ret;exact ⟨rfl, Below.refl _ _⟩
def Pow (w : World) : Prop := Lib.TabIs Tryz.prog w "internal/strconv.uint64pow10" .u64 Lib.pow10Tab
theorem Pow.on {w w' : World} (h : Pow w) (hb : Below w.heap.size w w') : Pow w' := Lib.tabBelow_of_tabIs h w' hb
theorem itoa_any (n : Int) (w : World) (h0 : 0 <= n) (h1 : n <= 9223372036854775807) (hp : Pow w) :
    Calls Tryz.prog 51 #[.int .i64 n] w fun e w' => e = .returned (.string (dec n)) /\ Below w.heap.size w w' :=
  (Tryz.strconv_Itoa n (by omega) h1 w hp).mono fun e w' ⟨he, k, os, hw⟩ => by
    subst hw;refine ⟨?_, ⟨rfl, rfl, rfl, Lib.size_grow _ _ _, ?_⟩⟩
    · rw [he]; unfold Lib.itoa dec; rw [if_neg (by omega)]
    · intro j hj
      exact Lib.heap_grow_old w k os j hj
def txI (x : Im) : ByteArray := ⟨#[105, 109, 112, 111, 114, 116, 32]⟩ ++ x.pkg ++ ⟨#[32]⟩ ++ dec x.major ++ ⟨#[32]⟩ ++ x.mod ++ ⟨#[32, 97, 115, 32]⟩ ++ x.asn ++ ⟨#[10]⟩
def textI : List Im -> List UInt8
  | [] => []
  | x :: xs => (txI x).data.toList ++ textI xs
theorem textI_snoc (xs : List Im) (x : Im) : textI (xs ++ [x]) = textI xs ++ (txI x).data.toList := by
  induction xs with
  | nil => simp [textI]
  | cons y ys ih => simp [textI, ih]
theorem textI_take (xs : List Im) (k : Nat) (x : Im) (h : xs[k]? = some x) : textI (xs.take (k + 1)) = textI (xs.take k) ++ (txI x).data.toList := by
  rw [List.take_add_one, h]; exact textI_snoc _ _
theorem mayI_bd {x : Im} (h : mayI x = true) : x.pkg.size <= 20 /\ x.mod.size <= 20 /\ x.asn.size <= 20 /\ 1 <= x.major /\ x.major <= 999999999 := by
  unfold mayI at h
  simp only [Bool.and_eq_true, decide_eq_true_eq] at h;obtain ⟨h1, h2, h3, h4, h5⟩ := h;exact ⟨small_len h1, small_len h2, small_len h3, h4, h5⟩
theorem txI_size {x : Im} (h : mayI x = true) : (txI x).size <= 120 := by
  obtain ⟨h1, h2, h3, h4, h5⟩ := mayI_bd h;have hd := dec_size x.major (by omega) (by omega);unfold txI
  simp only [ByteArray.size_append];simp only [show (⟨#[105, 109, 112, 111, 114, 116, 32]⟩ : ByteArray).size = 7 from rfl, show (⟨#[32]⟩ : ByteArray).size = 1 from rfl, show (⟨#[32, 97, 115, 32]⟩ : ByteArray).size = 4 from rfl, show (⟨#[10]⟩ : ByteArray).size = 1 from rfl];omega
structure TI (k : Nat) (x : Im) (W0 w' : World) : Prop where
  below : Below W0.heap.size W0 w'
  lt : k < W0.heap.size
  c0 : W0.cell? ⟨k, 0, none⟩ = some (.string x.pkg)
  c1 : W0.cell? ⟨k, 1, none⟩ = some (.int .i64 x.major)
  c2 : W0.cell? ⟨k, 2, none⟩ = some (.string x.mod)
  c3 : W0.cell? ⟨k, 3, none⟩ = some (.string x.asn)
  pow : Pow W0
theorem TI.all {k : Nat} {x : Im} {W0 w' : World} (h : TI k x W0 w') :
    w'.cell? ⟨k, 0, none⟩ = some (.string x.pkg) /\ w'.cell? ⟨k, 1, none⟩ = some (.int .i64 x.major) /\ w'.cell? ⟨k, 2, none⟩ = some (.string x.mod) /\ w'.cell? ⟨k, 3, none⟩ = some (.string x.asn) /\ TI k x W0 w' :=
  ⟨(h.below.cell (p := ⟨k, 0, none⟩) h.lt).trans h.c0, (h.below.cell (p := ⟨k, 1, none⟩) h.lt).trans h.c1, (h.below.cell (p := ⟨k, 2, none⟩) h.lt).trans h.c2, (h.below.cell (p := ⟨k, 3, none⟩) h.lt).trans h.c3, h⟩
theorem TI.drew {k : Nat} {x : Im} {W0 w' : World} (h : TI k x W0 w') : TI k x W0 w'.drew := { h with below := h.below.drew }
theorem TI.on {k : Nat} {x : Im} {W0 w' w'' : World} (h : TI k x W0 w') (hb : Below w'.heap.size w' w'') : TI k x W0 w'' := { h with below := below_over h.below hb }
theorem TI.powAt {k : Nat} {x : Im} {W0 w' : World} (h : TI k x W0 w') : Pow w' := h.pow.on h.below
theorem textI_any (A : Option Addr) (c n : Nat) (xs : List Im) (w : World) (hn : xs.length = n) (hz : n <= 1000) (hS : RowIn imR w A xs) (hM : ∀ x ∈ xs, mayI x = true) (hp : Pow w) :
    Calls Tryz.prog 23 #[.slice A n c] w fun e w' => ∃ s : ByteArray, e = .returned (.string s) /\ s.data.toList = textI xs /\ s.size <= 120 * n /\ Below w.heap.size w w' := by
  have HS := hZ hS;have HN := hZ hn;have HM := hZ hM;have HP := hZ hp;clear hS hn hM hp;go_enter Tryz.func23, Tryz.ntmps23
  go_wp2_with fail
  go_loopw [3, 8] (fun sv iv wr => ∃ (k : Nat) (acc : ByteArray), k <= n /\ iv = .int .i64 k /\ sv = .string acc /\ Hid (acc.data.toList = textI (xs.take k)) /\ acc.size <= 120 * k /\ Below w.heap.size w wr) (fun _ iv _ => n - (intOf iv).toNat)
  case atStart => exact ⟨0, ⟨#[]⟩, by omega, rfl, rfl, hZ (by simp [textI]), Nat.le_of_eq rfl, Below.refl _ _⟩
  case round =>
    obtain ⟨k, acc, hk, rfl, rfl, HA, ha, hb⟩ := hrel;obtain ⟨wo, rfl⟩ : ∃ wo : World, wo = wr := ⟨_, rfl⟩;by_cases hlt : k < n
    · obtain ⟨x, hx⟩ : ∃ x, xs[k]? = some x := ⟨_, List.getElem?_eq_getElem (by rw [HN.out]; exact hlt)⟩
      obtain ⟨g, o, rfl, -, a0, a1, a2, a3, -, -, -⟩ := (HS.out.below hb).im hx;have hmx := HM.out x (List.mem_of_getElem? hx);have HZ := hZ (txI_size hmx);obtain ⟨z0, z1, z2, m1, m2⟩ := mayI_bd hmx;have zd := dec_size x.major (by omega) (by omega);have HX := hZ hx;have HPo := hZ (HP.out.on hb)
      have hT : TI wo.heap.size x (wo.alloc (.cells #[.string x.pkg, .int .i64 x.major, .string x.mod, .string x.asn] 71)) (wo.alloc (.cells #[.string x.pkg, .int .i64 x.major, .string x.mod, .string x.asn] 71)) :=
        ⟨Below.refl _ _, by simp, by go_simp, by go_simp, by go_simp, by go_simp, HPo.out.on (below_new (Below.refl _ _) _)⟩
      have HB0 : Hid (Below w.heap.size w (wo.alloc (.cells #[.string x.pkg, .int .i64 x.major, .string x.mod, .string x.asn] 71))) := hZ (below_new hb _);have n1 : ¬ (7 + x.pkg.size > 9223372036854775807) := by omega
      have n2 : ¬ (7 + x.pkg.size + 1 > 9223372036854775807) := by omega
      have n3 : ¬ (7 + x.pkg.size + 1 + (dec x.major).size > 9223372036854775807) := by omega
      have n4 : ¬ (7 + x.pkg.size + 1 + (dec x.major).size + 1 > 9223372036854775807) := by omega
      have n5 : ¬ (7 + x.pkg.size + 1 + (dec x.major).size + 1 + x.mod.size > 9223372036854775807) := by omega
      have n6 : ¬ (7 + x.pkg.size + 1 + (dec x.major).size + 1 + x.mod.size + 4 > 9223372036854775807) := by omega
      have n7 : ¬ (7 + x.pkg.size + 1 + (dec x.major).size + 1 + x.mod.size + 4 + x.asn.size > 9223372036854775807) := by omega
      have n8 : ¬ (7 + x.pkg.size + 1 + (dec x.major).size + 1 + x.mod.size + 4 + x.asn.size + 1 > 9223372036854775807) := by omega
      have n9 : ¬ (acc.size + (7 + x.pkg.size + 1 + (dec x.major).size + 1 + x.mod.size + 4 + x.asn.size + 1) > 9223372036854775807) := by omega
      clear hx hmx;go_wp2_with fail
      go_region_held3 (fun w' => w'.cell? ⟨wo.heap.size, 0, none⟩ = some (.string x.pkg) /\ w'.cell? ⟨wo.heap.size, 1, none⟩ = some (.int .i64 x.major) /\ w'.cell? ⟨wo.heap.size, 2, none⟩ = some (.string x.mod) /\ w'.cell? ⟨wo.heap.size, 3, none⟩ = some (.string x.asn) /\ TI wo.heap.size x (wo.alloc (.cells #[.string x.pkg, .int .i64 x.major, .string x.mod, .string x.asn] 71)) w')
        (first | exact (TI.drew hT).all | (go_split_ands; refine (TI.on ?_ hbw).all; assumption))
        (first | (go_at_call 51; go_split_ands; refine (itoa_any _ _ ?_ ?_ ?_).mono ?_; (omega); (omega); (refine TI.powAt (k := wo.heap.size) (x := x) (W0 := wo.alloc (.cells #[.string x.pkg, .int .i64 x.major, .string x.mod, .string x.asn] 71)) ?_; assumption); rintro e w1 ⟨rfl, hbw⟩))
      go_split_ands
      have HB1 : Hid _ := hZ (TI.below (k := wo.heap.size) (x := x) (W0 := wo.alloc (.cells #[.string x.pkg, .int .i64 x.major, .string x.mod, .string x.asn] 71)) (by assumption));clear a0 a1 a2 a3 n1 n2 n3 n4 n5 n6 n7 n8 n9 hT hb;go_wp2_with fail
      go_roundw
      case rel =>
        refine ⟨k + 1, acc ++ txI x, by omega, by go_num, rfl, hZ (by rw [textI_take _ _ _ HX.out, <- HA.out]; simp), by rw [ByteArray.size_append]; have := HZ.out; omega, ?_⟩;exact below_over HB0.out HB1.out
      case measure => simp [intOf]; omega
    · have R : Hid (acc.data.toList = textI xs) := hZ (by
        have h := HA.out;rw [List.take_of_length_le (by rw [HN.out]; omega)] at h;exact h)
      have hkn : k = n := by omega
      subst hkn;go_wp2_with fail
      go_ret;exact ⟨_, rfl, R.out, ha, hb⟩
end Go.Proofs.YteecgiebimdbhaaGreatDoor
namespace Go.Proofs.YteecgiebimdbhaaGreatDoor
open Go.RowKit
open M
mutual
def countT : Ty -> Int -> Int -> Bool × Int
  | .mk k p m d n ns ss, depth, c =>
    if 500 < c + 1 \/ 32 < depth \/ formT (.mk k p m d n ns ss) = false then (false, c + 1) else countL ss (depth + 1) (c + 1)
def countL : List Ty -> Int -> Int -> Bool × Int
  | [], _, c => (true, c)
  | t :: r, depth, c => if (countT t depth c).1 = true then countL r depth (countT t depth c).2 else (false, (countT t depth c).2)
end
theorem countT_eq (t : Ty) (d c : Int) : countT t d c = if 500 < c + 1 \/ 32 < d \/ formT t = false then (false, c + 1) else countL t.subs (d + 1) (c + 1) := by cases t; rfl
theorem countL_at {l : List Ty} {k : Nat} {s : Ty} (h : l[k]? = some s) (d c : Int) : countL (l.drop k) d c = if (countT s d c).1 = true then countL (l.drop (k + 1)) d (countT s d c).2 else (false, (countT s d c).2) := by
  have hk := (List.getElem?_eq_some_iff.1 h).1
  have e : l.drop k = s :: l.drop (k + 1) := by
    rw [List.drop_eq_getElem_cons hk];congr 1
    exact (List.getElem?_eq_some_iff.1 h).2
  rw [e]; rfl
mutual
theorem countT_is : ∀ (t : Ty) (d c : Int), c <= 500 -> ((countT t d c).1 = true ↔ allOk t = true /\ c + many t <= 500 /\ d + deep t <= 33) /\ ((countT t d c).1 = true -> (countT t d c).2 = c + many t) /\ c <= (countT t d c).2 /\ (countT t d c).2 <= 501
  | .mk k p m d' n ns ss, d, c, hc => by
    have hm : many (.mk k p m d' n ns ss) = 1 + manyL ss := rfl;have hd : deep (.mk k p m d' n ns ss) = deepL ss + 1 := rfl;have ha : allOk (.mk k p m d' n ns ss) = (ownOk (.mk k p m d' n ns ss) && allOkL ss) := rfl;have he : countT (.mk k p m d' n ns ss) d c = if 500 < c + 1 \/ 32 < d \/ formT (.mk k p m d' n ns ss) = false then (false, c + 1) else countL ss (d + 1) (c + 1) := rfl
    rw [he, hm, hd, ha, <- formT_own];by_cases h : 500 < c + 1 \/ 32 < d \/ formT (.mk k p m d' n ns ss) = false
    · rw [if_pos h]
      refine ⟨⟨fun h => by simp at h, fun ⟨h1, h2, h3⟩ => ?_⟩, fun h => by simp at h, by simp; omega, by simp; omega⟩;exfalso
      rcases h with h | h | h
      · omega
      · omega
      · rw [h] at h1; simp at h1
    · rw [if_neg h]
      have hf : formT (.mk k p m d' n ns ss) = true := by
        rcases hid_or (formT (.mk k p m d' n ns ss)) with e | e
        · exact absurd (.inr (.inr e.out)) h
        · exact e.out
      have h1 : ¬ 500 < c + 1 := fun x => h (.inl x)
      have h2 : ¬ 32 < d := fun x => h (.inr (.inl x))
      obtain ⟨a, b, l, u⟩ := countL_is ss (d + 1) (c + 1) (by omega) (by omega);refine ⟨?_, fun x => by rw [b x]; omega, by omega, u⟩;rw [a, hf];simp only [Bool.true_and];constructor
      · rintro ⟨x, y, z⟩; exact ⟨x, by omega, by omega⟩
      · rintro ⟨x, y, z⟩; exact ⟨x, by omega, by omega⟩
theorem countL_is : ∀ (l : List Ty) (d c : Int), c <= 500 -> d <= 33 -> ((countL l d c).1 = true ↔ allOkL l = true /\ c + manyL l <= 500 /\ d + deepL l <= 33) /\ ((countL l d c).1 = true -> (countL l d c).2 = c + manyL l) /\ c <= (countL l d c).2 /\ (countL l d c).2 <= 501
  | [], d, c, hc, hd => by
    have hm : manyL [] = 0 := rfl;have h2 : deepL [] = 0 := rfl;have ha : allOkL [] = true := rfl;have he : countL [] d c = (true, c) := rfl;rw [he, hm, h2, ha];exact ⟨⟨fun _ => ⟨rfl, by omega, by omega⟩, fun _ => rfl⟩, fun _ => by simp, by simp, by simp; omega⟩
  | t :: r, d, c, hc, hd => by
    have hm : manyL (t :: r) = many t + manyL r := rfl;have h2 : deepL (t :: r) = max (deep t) (deepL r) := rfl;have ha : allOkL (t :: r) = (allOk t && allOkL r) := rfl;have he : countL (t :: r) d c = if (countT t d c).1 = true then countL r d (countT t d c).2 else (false, (countT t d c).2) := rfl
    obtain ⟨a, b, l, u⟩ := countT_is t d c hc;rw [he, hm, h2, ha];by_cases h : (countT t d c).1 = true
    · rw [if_pos h]
      have e := b h;obtain ⟨x, y, z⟩ := a.1 h;obtain ⟨a2, b2, l2, u2⟩ := countL_is r d (countT t d c).2 (by omega) hd;refine ⟨?_, fun x => by rw [b2 x]; omega, by omega, u2⟩;rw [a2, x, e];simp only [Bool.true_and];constructor
      · rintro ⟨x', y', z'⟩; exact ⟨x', by omega, by omega⟩
      · rintro ⟨x', y', z'⟩; exact ⟨x', by omega, by omega⟩
    · rw [if_neg h]
      refine ⟨⟨fun h => by simp at h, fun ⟨x, y, z⟩ => ?_⟩, fun h => by simp at h, l, u⟩;exfalso
      simp only [Bool.and_eq_true] at x;exact h (a.2 ⟨x.1, by omega, by omega⟩)
end
def sizeT (t : Ty) : Nat := if mayT t = true then many t else 0
theorem may_iff (t : Ty) : mayT t = true ↔ (countT t 1 0).1 = true := by
  rw [(countT_is t 1 0 (by omega)).1];unfold mayT
  simp only [Bool.and_eq_true, decide_eq_true_eq];constructor
  · rintro ⟨⟨a, b⟩, c⟩; exact ⟨a, by omega, by omega⟩
  · rintro ⟨a, b, c⟩; exact ⟨⟨a, by omega⟩, by omega⟩
theorem size_pos (t : Ty) : decide (0 < sizeT t) = mayT t := by
  have := many_pos t
  unfold sizeT
  rcases hid_or (mayT t) with h | h
  · rw [h.out]; rfl
  · rw [h.out]; simp; omega
end Go.Proofs.YteecgiebimdbhaaGreatDoor
