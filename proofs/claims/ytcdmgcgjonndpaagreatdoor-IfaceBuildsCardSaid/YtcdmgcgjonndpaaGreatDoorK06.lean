/-
  Several texts in one.
-/
import Derived.Test.YtcdmgcgjonndpaaGreatDoorK05
import Derived.LaidEql
import Derived.Stop.Asserts
import Derived.RowKitTokens
import Derived.Lib.IfaceEq
import Derived.Laws.Pointers
import Derived.Lib.ItoaLen
import Derived.Deep.RegionHeld3
import Derived.Deep.RegionWith
import Derived.Laws.BitsLemmas
set_option maxRecDepth 100000
set_option maxHeartbeats 8000000
namespace Go.Proofs.YtcdmgcgjonndpaaGreatDoor
open Go.RowKit Go.Extern.Stop Go.Stop Go.Extern
theorem sp_valueOfPP (t : Addr) (w : World) : (ReflectliteValue.unpack (.iface 118 (.pointer (some t)))).run Tryz.prog w
    = .ok (.agg #[.pointer (some ⟨1, 118, none⟩), .pointer (some ⟨w.heap.size, 0, none⟩), .int .u64 150]) (w.alloc (.cells #[.pointer (some t)] 118)) := by kernel_rfl
theorem sp_typePP (a : Addr) (w : World) : (ReflectliteValue.methodAny (ReflectliteValue.valueError "reflectlite.Value.Type" 0) (fun t _ _ _ => ReflectliteType.toType t) #[.agg #[.pointer (some ⟨1, 118, none⟩), .pointer (some a), .int .u64 150]]).run Tryz.prog w
    = .ok (.iface 199 (.agg #[.pointer (some ⟨1, 118, none⟩)])) w := by kernel_rfl
theorem sp_methodKind (h : Value) (w : World) : (Go.method 367 199 (.agg #[h]) "Kind").run Tryz.prog w = .ok (191, h) w := by kernel_rfl
theorem sp_kindPP (w : World) : ((ReflectliteType.abiMethod fun t => (fun a : Nat => Value.int IntKind.u8 (a : Int)) <$> Rtype.kind t) #[.pointer (some ⟨1, 118, none⟩)]).run Tryz.prog w = .ok (.int .u8 22) w := by kernel_rfl
theorem sp_kindP (w : World) : ((ReflectliteType.abiMethod fun t => (fun a : Nat => Value.int IntKind.u8 (a : Int)) <$> Rtype.kind t) #[.pointer (some ⟨1, 59, none⟩)]).run Tryz.prog w = .ok (.int .u8 22) w := by kernel_rfl
theorem rl_method (z : Sem Value) (f : TypeId -> Addr -> Nat -> Nat -> Sem Value) (v : Value) :
    ReflectliteValue.method z f #[v] = (do match <- ReflectliteValue.parts v with | none => z | some (t, a, fl) => f t a fl (fl % 32)) := rfl
theorem sp_partsPP (a : Addr) (w : World) : (ReflectliteValue.parts (.agg #[.pointer (some ⟨1, 118, none⟩), .pointer (some a), .int .u64 150])).run Tryz.prog w = .ok (some (118, a, 150)) w := by kernel_rfl
theorem sp_isNilPP (a p : Addr) (W : World) (ha : W.cell? a = some (.pointer (some p))) :
    (ReflectliteValue.method (ReflectliteValue.valueError "reflectlite.Value.IsNil" 0) ReflectliteValue.isNil #[.agg #[.pointer (some ⟨1, 118, none⟩), .pointer (some a), .int .u64 150]]).run Tryz.prog W = .ok (.bool false) W := by
  rw [rl_method];simp only [Sem.run_bind, sp_partsPP, Result.andThen];simp [ReflectliteValue.isNil, loadVar, isAgg, underlying, Tryz.underlying118, ha, Result.andThen]
theorem sp_methodElem (h : Value) (w : World) : (Go.method 367 199 (.agg #[h]) "Elem").run Tryz.prog w = .ok (203, .agg #[h]) w := by kernel_rfl
theorem sp_methodImplements (h : Value) (w : World) : (Go.method 367 199 (.agg #[h]) "Implements").run Tryz.prog w = .ok (204, .agg #[h]) w := by kernel_rfl
theorem sp_methodAssignableTo (h : Value) (w : World) : (Go.method 367 199 (.agg #[h]) "AssignableTo").run Tryz.prog w = .ok (201, .agg #[h]) w := by kernel_rfl
theorem sp_elemPP (w : World) : (ReflectliteType.method ReflectliteType.elem #[.agg #[.pointer (some ⟨1, 118, none⟩)]]).run Tryz.prog w = .ok (.iface 199 (.agg #[.pointer (some ⟨1, 59, none⟩)])) w := by kernel_rfl
theorem sp_implements (w : World) : (ReflectliteType.relation "Implements" ReflectliteType.implements_ #[.agg #[.pointer (some ⟨1, 59, none⟩)], .iface 199 (.agg #[.pointer (some ⟨1, 34, none⟩)])]).run Tryz.prog w = .ok (.bool true) w := by kernel_rfl
theorem sp_typeOfP (v : Value) (w : World) : (ReflectliteType.typeOf #[.iface 59 v]).run Tryz.prog w = .ok (.iface 199 (.agg #[.pointer (some ⟨1, 59, none⟩)])) w := by kernel_rfl
theorem sp_assignable (w : World) : (ReflectliteType.relation "AssignableTo" ReflectliteType.assignableTo #[.agg #[.pointer (some ⟨1, 59, none⟩)], .iface 199 (.agg #[.pointer (some ⟨1, 59, none⟩)])]).run Tryz.prog w = .ok (.bool true) w := by kernel_rfl
theorem sp_valueOfP (e : Addr) (w : World) : (ReflectliteValue.unpack (.iface 59 (.pointer (some e)))).run Tryz.prog w
    = .ok (.agg #[.pointer (some ⟨1, 59, none⟩), .pointer (some ⟨w.heap.size, 0, none⟩), .int .u64 150]) (w.alloc (.cells #[.pointer (some e)] 59)) := by kernel_rfl
theorem sp_elemOfPP (w : World) : (Rtype.elem? 118).run Tryz.prog w = .ok (some 59) w := by kernel_rfl
theorem sp_mkP (p : Addr) (w : World) : (ReflectliteValue.mk 59 p ReflectliteValue.flagAddr).run Tryz.prog w = .ok (.agg #[.pointer (some ⟨1, 59, none⟩), .pointer (some p), .int .u64 406]) w := by kernel_rfl
theorem sp_elemVPP (a p : Addr) (W : World) (ha : W.cell? a = some (.pointer (some p))) :
    (ReflectliteValue.method (ReflectliteValue.valueError "reflectlite.Value.Elem" 0) ReflectliteValue.elem #[.agg #[.pointer (some ⟨1, 118, none⟩), .pointer (some a), .int .u64 150]]).run Tryz.prog W
      = .ok (.agg #[.pointer (some ⟨1, 59, none⟩), .pointer (some p), .int .u64 406]) W := by
  rw [rl_method];simp only [Sem.run_bind, sp_partsPP, Result.andThen];simp [ReflectliteValue.elem, loadVar, isAgg, underlying, Tryz.underlying118, ha, Result.andThen, sp_elemOfPP, sp_mkP]
theorem rl_set (v x : Value) : ReflectliteValue.set #[v, x] = (do
    let (some (dst, a, fl), some (src, b, _)) := (<- ReflectliteValue.parts v, <- ReflectliteValue.parts x)
      | unsupported (.noEntry "extern/(internal/reflectlite.Value).Set.zeroValue")
    if fl / ReflectliteValue.flagAddr % 2 == 0 then unsupported (.noEntry "extern/(internal/reflectlite.Value).Set.unaddressable")
    let val <- loadVar src b
    if <- Rtype.directlyAssignable dst src then storeVar dst a val
    else if <- Rtype.implements dst src then
      if (<- Rtype.kind src) == 20 then
        match val with
        | .nilIface => unsupported (.noEntry "extern/reflectlite: a nil value of one interface type handed on as a value of another")
        | _ => storeVar dst a val
      else storeVar dst a (.iface src val)
    else panicString ("reflectlite.Set: value of type " ++ (<- Rtype.spelt src) ++ " is not assignable to type " ++ (<- Rtype.spelt dst))
    pure (.tuple #[])) := rfl
theorem sp_partsA (a : Addr) (w : World) : (ReflectliteValue.parts (.agg #[.pointer (some ⟨1, 59, none⟩), .pointer (some a), .int .u64 406])).run Tryz.prog w = .ok (some (59, a, 406)) w := by kernel_rfl
theorem sp_partsB (a : Addr) (w : World) : (ReflectliteValue.parts (.agg #[.pointer (some ⟨1, 59, none⟩), .pointer (some a), .int .u64 150])).run Tryz.prog w = .ok (some (59, a, 150)) w := by kernel_rfl
theorem sp_direct (w : World) : (Rtype.directlyAssignable 59 59).run Tryz.prog w = .ok true w := by kernel_rfl
theorem sp_set (ta b e : Addr) (old : Value) (W : World) (hb : W.cell? b = some (.pointer (some e))) (ht : W.cell? ta = some old) (hf : W.frozen? ta = false) :
    (ReflectliteValue.set #[.agg #[.pointer (some ⟨1, 59, none⟩), .pointer (some ta), .int .u64 406], .agg #[.pointer (some ⟨1, 59, none⟩), .pointer (some b), .int .u64 150]]).run Tryz.prog W
      = .ok (.tuple #[]) (W.setCell ta (.pointer (some e))) := by
  rw [rl_set];simp only [Sem.run_bind, sp_partsA, sp_partsB, Result.andThen];simp [ReflectliteValue.flagAddr, loadVar, isAgg, underlying, Tryz.underlying59, hb, Result.andThen, sp_direct, storeVar, Value.cells, storeCells, Addr.add];rw [run_store Tryz.prog W ta _ _ (by rfl)];simp [ht, hf]
def ErrT (w : World) : Prop := w.cell? ⟨0, 0, none⟩ = some (.iface 199 (.agg #[.pointer (some ⟨1, 34, none⟩)]))
theorem ErrT.lt {w : World} (h : ErrT w) : 0 < w.heap.size := by
  rcases Nat.lt_or_ge 0 w.heap.size with h0 | h0
  · exact h0
  · unfold ErrT at h
    simp [World.cell?, Array.getElem?_eq_none h0] at h
theorem ErrT.on {w w' : World} (h : ErrT w) (hb : Below w.heap.size w w') : ErrT w' := (hb.cell (p := ⟨0, 0, none⟩) h.lt).trans h
theorem as_spot (e t : Addr) (old : Value) (w : World) (hg : ErrT w) (ht0 : w.cell? t = some old) (hf0 : w.frozen? t = false) :
    Calls Tryz.prog 65 #[.iface 59 (.pointer (some e)), .iface 118 (.pointer (some t))] w fun ev w' => ev = .returned (.bool true) /\ w' = ((((w.alloc (.cells #[.pointer (some t)] 118)).alloc (.cells #[.pointer (some ⟨1, 118, none⟩), .pointer (some ⟨w.heap.size, 0, none⟩), .int .u64 150] 166)).alloc (.cells #[.pointer (some ⟨1, 118, none⟩), .pointer (some ⟨w.heap.size, 0, none⟩), .int .u64 150] 166)).alloc (.cells #[.pointer (some e)] 59)).setCell t (.pointer (some e)) := by
  have h6 := @run_callFunc_extern Tryz.prog 106 _ (fun args => ReflectliteValue.unpack (args.getD 0 (.tuple #[]))) Tryz.func106 (by kernel_rfl) (by kernel_rfl) (by kernel_rfl) (by kernel_rfl);have h7 := @run_callFunc_extern Tryz.prog 107 _ (ReflectliteValue.methodAny (ReflectliteValue.valueError "reflectlite.Value.Type" 0) (fun t _ _ _ => ReflectliteType.toType t)) Tryz.func107 (by kernel_rfl) (by kernel_rfl) (by kernel_rfl) (by kernel_rfl);have h8 := @run_callFunc_extern Tryz.prog 108 _ (ReflectliteValue.method (ReflectliteValue.valueError "reflectlite.Value.IsNil" 0) ReflectliteValue.isNil) Tryz.func108 (by kernel_rfl) (by kernel_rfl) (by kernel_rfl) (by kernel_rfl);have h27 := @run_callFunc_extern Tryz.prog 191 _ (ReflectliteType.abiMethod fun t => do pure (.int .u8 (<- Rtype.kind t))) Tryz.func191 (by kernel_rfl) (by kernel_rfl) (by kernel_rfl) (by kernel_rfl);have h37 := @run_callFunc_extern Tryz.prog 203 _ (ReflectliteType.method ReflectliteType.elem) Tryz.func203 (by kernel_rfl) (by kernel_rfl) (by kernel_rfl) (by kernel_rfl);have h38 := @run_callFunc_extern Tryz.prog 204 _ (ReflectliteType.relation "Implements" ReflectliteType.implements_) Tryz.func204 (by kernel_rfl) (by kernel_rfl) (by kernel_rfl) (by kernel_rfl);have h10 := @run_callFunc_extern Tryz.prog 110 _ ReflectliteType.typeOf Tryz.func110 (by kernel_rfl) (by kernel_rfl) (by kernel_rfl) (by kernel_rfl);have h35 := @run_callFunc_extern Tryz.prog 201 _ (ReflectliteType.relation "AssignableTo" ReflectliteType.assignableTo) Tryz.func201 (by kernel_rfl) (by kernel_rfl) (by kernel_rfl) (by kernel_rfl);have h11 := @run_callFunc_extern Tryz.prog 141 _ (ReflectliteValue.method (ReflectliteValue.valueError "reflectlite.Value.Elem" 0) ReflectliteValue.elem) Tryz.func141 (by kernel_rfl) (by kernel_rfl) (by kernel_rfl) (by kernel_rfl);have h12 := @run_callFunc_extern Tryz.prog 142 _ ReflectliteValue.set Tryz.func142 (by kernel_rfl) (by kernel_rfl) (by kernel_rfl) (by kernel_rfl);have tO := sp_typeOfP;have mA := sp_methodAssignableTo;have a25 := sp_assignable;have v25 := sp_valueOfP;have f6 := sp_valueOfPP;have f7 := sp_typePP;have mK := sp_methodKind;have mE := sp_methodElem;have mI := sp_methodImplements;have k27 := sp_kindPP;have k25 := sp_kindP;have e27 := sp_elemPP;have i25 := sp_implements;have n8 := sp_isNilPP ⟨w.heap.size, 0, none⟩ t ((w.alloc (.cells #[.pointer (some t)] 118)).alloc (.cells #[.pointer (some ⟨1, 118, none⟩), .pointer (some ⟨w.heap.size, 0, none⟩), .int .u64 150] 166)) (by simp);have hlt : 0 < w.heap.size := hg.lt
  have hg2 : ((w.alloc (.cells #[.pointer (some t)] 118)).alloc (.cells #[.pointer (some ⟨1, 118, none⟩), .pointer (some ⟨w.heap.size, 0, none⟩), .int .u64 150] 166)).cell? ⟨0, 0, none⟩ = some (.iface 199 (.agg #[.pointer (some ⟨1, 34, none⟩)])) := by
    rw [World.cell?_alloc_lt _ _ ⟨0, 0, none⟩ (by simp <;> omega), World.cell?_alloc_lt _ _ ⟨0, 0, none⟩ hlt]; exact hg
  have htl : t.block < w.heap.size := by
    rcases Nat.lt_or_ge t.block w.heap.size with h | h
    · exact h
    · simp [World.cell?, Array.getElem?_eq_none h] at ht0
  have el := sp_elemVPP ⟨w.heap.size, 0, none⟩ t (((w.alloc (.cells #[.pointer (some t)] 118)).alloc (.cells #[.pointer (some ⟨1, 118, none⟩), .pointer (some ⟨w.heap.size, 0, none⟩), .int .u64 150] 166)).alloc (.cells #[.pointer (some ⟨1, 118, none⟩), .pointer (some ⟨w.heap.size, 0, none⟩), .int .u64 150] 166)) (by rw [World.cell?_alloc_lt _ _ ⟨w.heap.size, 0, none⟩ (by simp; omega)]; simp)
  have st := sp_set t ⟨w.heap.size + 1 + 1 + 1, 0, none⟩ e old ((((w.alloc (.cells #[.pointer (some t)] 118)).alloc (.cells #[.pointer (some ⟨1, 118, none⟩), .pointer (some ⟨w.heap.size, 0, none⟩), .int .u64 150] 166)).alloc (.cells #[.pointer (some ⟨1, 118, none⟩), .pointer (some ⟨w.heap.size, 0, none⟩), .int .u64 150] 166)).alloc (.cells #[.pointer (some e)] 59))
    (by rw [World.cell?_alloc_at _ _ _ _ (by simp)]; rfl)
    (by rw [World.cell?_alloc_lt _ _ t (by simp; omega), World.cell?_alloc_lt _ _ t (by simp; omega), World.cell?_alloc_lt _ _ t (by simp; omega), World.cell?_alloc_lt _ _ t htl]; exact ht0)
    (by rw [World.frozen?_alloc_old _ _ t (by simp; omega), World.frozen?_alloc_old _ _ t (by simp; omega), World.frozen?_alloc_old _ _ t (by simp; omega), World.frozen?_alloc_old _ _ t (Nat.ne_of_lt htl)]; exact hf0)
  go_enter Tryz.func65, Tryz.ntmps65
  go_wp2
  refine wp_loop_rounds 1 ?_;rw [rounds_succ];go_wp2
  go_ret;exact ⟨rfl, rfl⟩
theorem sp_typeOfC (v : Value) (w : World) : (ReflectliteType.typeOf #[.iface 54 v]).run Tryz.prog w = .ok (.iface 199 (.agg #[.pointer (some ⟨1, 54, none⟩)])) w := by kernel_rfl
theorem sp_methodComparable (h : Value) (w : World) : (Go.method 367 199 (.agg #[h]) "Comparable").run Tryz.prog w = .ok (202, .agg #[h]) w := by kernel_rfl
theorem sp_comparableC (w : World) : ((ReflectliteType.method fun t => do Rtype.noPackHeld "Comparable" t; (fun a => Value.bool a.comparable) <$> typeInfo t) #[.agg #[.pointer (some ⟨1, 54, none⟩)]]).run Tryz.prog w = .ok (.bool true) w := by kernel_rfl
theorem sp_comp : (Tryz.prog.info? 54).map (·.comparable) = some true := by kernel_rfl
theorem sp_noIs (v : Value) (xT : TypeId) (w : World) : (Instr.typeAssert (.iface 59 v) xT 211 true).run Tryz.prog w = .ok (.tuple #[.nilIface, .bool false]) w := run_typeAssert_lacksB Tryz.underlying211 (by kernel_rfl) (by kernel_rfl) v xT w
theorem sp_hasUnwrap (v : Value) (xT : TypeId) (w : World) : (Instr.typeAssert (.iface 59 v) xT 206 true).run Tryz.prog w = .ok (.tuple #[.iface 59 v, .bool true]) w := run_typeAssert_hasB Tryz.underlying206 (by kernel_rfl) v xT w
theorem sp_methodUnwrap (v : Value) (w : World) : (Go.method 367 59 v "Unwrap").run Tryz.prog w = .ok (196, v) w := by kernel_rfl
theorem is_spot (b : Nat) (c : Int) (w : World) (h1 : w.cell? ⟨b, 1, none⟩ = some (.iface 54 (.int .i64 c))) :
    Calls Tryz.prog 66 #[.iface 59 (.pointer (some ⟨b, 0, none⟩)), .iface 54 (.int .i64 c)] w fun e w' => e = .returned (.bool true) /\ w' = w := by
  have h8 := @run_callFunc_extern Tryz.prog 110 _ ReflectliteType.typeOf Tryz.func110 (by kernel_rfl) (by kernel_rfl) (by kernel_rfl) (by kernel_rfl);have h32 := @run_callFunc_extern Tryz.prog 202 _ (ReflectliteType.method fun t => do Rtype.noPackHeld "Comparable" t; pure (.bool (<- typeInfo t).comparable)) Tryz.func202 (by kernel_rfl) (by kernel_rfl) (by kernel_rfl) (by kernel_rfl);have tT := sp_typeOfC;have cT := sp_comparableC;have mR := sp_methodComparable;have nE := sp_noIs;have uW := sp_hasUnwrap;have mU := sp_methodUnwrap;have heq := Lib.run_eql_iface_int (P := Tryz.prog) (k := .i64) w c c Tryz.underlying34 sp_comp Tryz.underlying54;have hty := run_eql_iface_types (P := Tryz.prog) 59 54 (.pointer (some ⟨b, 0, none⟩)) (.int .i64 c) Tryz.underlying34 (by decide) w;go_enter Tryz.func66, Tryz.ntmps66
  go_wp2
  refine wp_loop_rounds 2 ?_;rw [rounds_succ];go_wp2
  rw [rounds_succ];go_wp2
  go_ret;exact ⟨rfl, rfl⟩
end Go.Proofs.YtcdmgcgjonndpaaGreatDoor
namespace Go.Proofs.YtcdmgcgjonndpaaGreatDoor
open Go.RowKit
theorem sp_compP : (Tryz.prog.info? 59).map (·.comparable) = some true := by kernel_rfl
theorem sp_sizeS : (Tryz.prog.info? 61).map (·.size) = some 2 := by kernel_rfl
theorem sp_eqSame (a : Addr) (w : World) : (binOp .eql 34 (.iface 59 (.pointer (some a))) (.iface 59 (.pointer (some a)))).run Tryz.prog w = .ok (.bool true) w := by
  obtain ⟨i, hi, hcmp⟩ := Option.map_eq_some_iff.1 sp_compP;obtain ⟨j, hj, -⟩ := Option.map_eq_some_iff.1 sp_sizeS;exact run_eql_iface_ptr_same (P := Tryz.prog) w a Tryz.underlying34 Tryz.underlying59 hi hcmp hj
theorem sp_neSame (a : Addr) (w : World) : (binOp .neq 34 (.iface 59 (.pointer (some a))) (.iface 59 (.pointer (some a)))).run Tryz.prog w = .ok (.bool false) w := by
  have h := sp_eqSame a w;simp only [binOp] at h ⊢;cases he : (Op.equal 34 (.iface 59 (.pointer (some a))) (.iface 59 (.pointer (some a)))).run Tryz.prog w <;> simp_all [Result.andThen]
theorem sp_eqCode (a b : Int) (w : World) : (binOp .eql 34 (.iface 54 (.int .i64 a)) (.iface 54 (.int .i64 b))).run Tryz.prog w = .ok (.bool (a == b)) w :=
  Lib.run_eql_iface_int (P := Tryz.prog) (k := .i64) w a b Tryz.underlying34 sp_comp Tryz.underlying54
theorem cell_on {w W : World} {b o : Nat} {v : Value} (hb : Below w.heap.size w W) (h : b < w.heap.size) (h1 : w.cell? ⟨b, o, none⟩ = some v) : W.cell? ⟨b, o, none⟩ = some v := (hb.cell (p := ⟨b, o, none⟩) h).trans h1
theorem as_below (e : Addr) (w W : World) (old : Value) (hg : ErrT W) (hb : Below w.heap.size w W) (ht : W.cell? ⟨w.heap.size, 0, none⟩ = some old) (hf : W.frozen? ⟨w.heap.size, 0, none⟩ = false) :
    Calls Tryz.prog 65 #[.iface 59 (.pointer (some e)), .iface 118 (.pointer (some ⟨w.heap.size, 0, none⟩))] W fun ev w' => ev = .returned (.bool true) /\ w'.cell? ⟨w.heap.size, 0, none⟩ = some (.pointer (some e)) /\ Below w.heap.size w w' := by
  have hlt : w.heap.size < W.heap.size := by
    rcases Nat.lt_or_ge w.heap.size W.heap.size with h | h
    · exact h
    · simp [World.cell?, Array.getElem?_eq_none h] at ht
  refine (as_spot e _ old W hg ht hf).mono ?_;rintro ev w' ⟨rfl, rfl⟩;refine ⟨rfl, ?_, ?_⟩
  · exact World.cell?_setCell_same' _ _ _ (by
      rw [World.cell?_alloc_lt _ _ _ (by simp; omega), World.cell?_alloc_lt _ _ _ (by simp; omega), World.cell?_alloc_lt _ _ _ (by simp; omega), World.cell?_alloc_lt _ _ _ hlt, ht]; rfl)
  · repeat (first | exact hb | with_reducible refine below_new ?_ _ | with_reducible refine below_put ?_ (by simp <;> omega) _)
theorem isSpot_any (b : Nat) (p c : Int) (w : World) (hg : ErrT w) (hb : b < w.heap.size) (h0 : w.cell? ⟨b, 0, none⟩ = some (.int .i64 p)) (h1 : w.cell? ⟨b, 1, none⟩ = some (.iface 54 (.int .i64 c))) :
    Calls Tryz.prog 27 #[.iface 59 (.pointer (some ⟨b, 0, none⟩)), .int .i64 p, .int .i64 c] w fun e w' => e = .returned (.bool true) /\ Below w.heap.size w w' := by
  have HB := hZ hb;have H0 := hZ h0;have H1 := hZ h1;clear hb h0 h1;have hne := sp_neSame ⟨b, 0, none⟩;have heq := sp_eqCode c c;go_enter Tryz.func27, Tryz.ntmps27
  go_wp2_with fail
  refine (as_below _ w _ (.pointer none) (hg.on (below_new (Below.refl _ _) _)) (below_new (Below.refl _ _) _) (by go_simp) (by go_simp)).mono ?_; rintro e w1 ⟨rfl, ct, hb1⟩
  have c0 := cell_on hb1 HB.out H0.out;have c1 := cell_on hb1 HB.out H1.out;go_wp2_with fail
  refine (is_spot _ c _ c1).mono ?_; rintro e w' ⟨rfl, rfl⟩
  go_wp2
  go_ret;exact ⟨rfl, hb1⟩
end Go.Proofs.YtcdmgcgjonndpaaGreatDoor
namespace Go.Proofs.YtcdmgcgjonndpaaGreatDoor
open Go.RowKit
open Go.Sort
open M
theorem noT_at (w : World) : TyV w (.agg #[.int .i64 0, .string ⟨#[]⟩, .int .i64 0, .string ⟨#[]⟩, .string ⟨#[]⟩, .slice none 0 0, .slice none 0 0]) noT := ⟨_, rfl, TyAt.zero w⟩
theorem rdecl0_any (k : Int) (s : ByteArray) (t : Ty) (An As : Option Addr) (cA cS : Nat) (w : World) (hT : TyAt w [.int .i64 t.kind, .string t.pkg, .int .i64 t.major, .string t.mod, .string t.name, .slice An t.names.length cA, .slice As t.subs.length cS] t) (hM : many t <= 9000) (z : s.size <= 9223372036854775807) :
    Calls Tryz.prog 100 #[.agg #[.int .i64 k, .string s, .int .i64 t.kind, .string t.pkg, .int .i64 t.major, .string t.mod, .string t.name, .slice An t.names.length cA, .slice As t.subs.length cS]] w fun e w' => e = .returned (.bool (mayD ⟨k, s, t⟩)) /\ Below w.heap.size w w' := by
  obtain ⟨w0, hw0⟩ : ∃ w0, w0 = w.alloc (.cells #[.int .i64 k, .string s, .int .i64 t.kind, .string t.pkg, .int .i64 t.major, .string t.mod, .string t.name, .slice An t.names.length cA, .slice As t.subs.length cS] 47) := ⟨_, rfl⟩;have B0 : Below w.heap.size w w0 := by rw [hw0]; exact below_new (Below.refl _ _) _
  have O0 : w0.heap[w.heap.size]? = some (.cells #[.int .i64 k, .string s, .int .i64 t.kind, .string t.pkg, .int .i64 t.major, .string t.mod, .string t.name, .slice An t.names.length cA, .slice As t.subs.length cS] 47 (0, 0)) := by rw [hw0]; exact heap_alloc_new w _
  have hl0 : w.heap.size < w0.heap.size := by rw [hw0]; simp
  have HV : Hid (mayD ⟨k, s, t⟩ = if k = 1 \/ k = 2 then greatB s.data.toList && sameT t noT else if k = 3 then greatB s.data.toList && mayT t else if k = 4 then smallB s.data.toList && mayT t else false) := hZ rfl;have S0 := hZ (fun w => refSmall_any s w z);have S1 := hZ (fun w => refGreat_any s w z);have HT : Hid (∀ w', Below w.heap.size w w' -> TyV w' (.agg #[.int .i64 t.kind, .string t.pkg, .int .i64 t.major, .string t.mod, .string t.name, .slice An t.names.length cA, .slice As t.subs.length cS]) t) := hZ (fun w' hb => ⟨_, rfl, hT.keep hb⟩);have SM : Hid (∀ w', Below w.heap.size w w' -> Calls Tryz.prog 67 #[.agg #[.int .i64 t.kind, .string t.pkg, .int .i64 t.major, .string t.mod, .string t.name, .slice An t.names.length cA, .slice As t.subs.length cS], .agg #[.int .i64 0, .string ⟨#[]⟩, .int .i64 0, .string ⟨#[]⟩, .string ⟨#[]⟩, .slice none 0 0, .slice none 0 0]] w' fun e w'' => e = .returned (.bool (sameT t noT)) /\ Below w'.heap.size w' w'') := hZ (fun w' hb => same_any _ t noT (Nat.le_refl _) _ _ w' (HT.out w' hb) (noT_at w'));have MY : Hid (∀ w', Below w.heap.size w w' -> Calls Tryz.prog 59 #[.agg #[.int .i64 t.kind, .string t.pkg, .int .i64 t.major, .string t.mod, .string t.name, .slice An t.names.length cA, .slice As t.subs.length cS]] w' fun e w'' => e = .returned (.bool (mayT t)) /\ Below w'.heap.size w' w'') := hZ (fun w' hb => may_any t _ w' hM (HT.out w' hb));rw [HV.out];generalize smallB s.data.toList = b0 at S0
  generalize greatB s.data.toList = b1 at S1
  generalize sameT t noT = b2 at SM
  generalize mayT t = b3 at MY
  obtain ⟨V, hV⟩ : ∃ V, (if k = 1 \/ k = 2 then b1 && b2 else if k = 3 then b1 && b3 else if k = 4 then b0 && b3 else false) = V := ⟨_, rfl⟩;rw [hV];have HVV := hZ hV;clear hV;have x1 := cZ O0 1;simp at x1;have HO := hZ O0;have HB := hZ B0;have HW0 := hZ hw0;clear hw0 B0 O0 HV z hT HT;go_enter Tryz.func100, Tryz.ntmps100
  go_upto_region 1 with fail
  rw [<- HW0.out];clear HW0;go_wp2_with fail
  refine (S0.out _).mono ?_; rintro e w1 ⟨rfl, hb1⟩
  have O1 := (hb1.block _ hl0).trans HO.out;have HB1 := hZ (below_over HB.out hb1);have x1 := cZ O1 1;simp at x1;go_wp2_with fail
  refine (S1.out _).mono ?_; rintro e w2 ⟨rfl, rfl⟩
  obtain ⟨y0, y1, y2, y3, y4, y5, y6, y7, y8⟩ := cq9 O1;simp at y0 y1 y2 y3 y4 y5 y6 y7 y8;clear x1;go_wp2_with fail
  refine (SM.out _ HB1.out).mono ?_; rintro e w3 ⟨rfl, hb3⟩
  have hl1 := Nat.lt_of_lt_of_le hl0 hb1.size;have O3 := (hb3.block _ hl1).trans O1;have B3 := below_over HB1.out hb3;have HB3 := hZ B3;clear y0 y1 y2 y3 y4 y5 y6 y7 y8;obtain ⟨y0, y1, y2, y3, y4, y5, y6, y7, y8⟩ := cq9 O3;simp at y0 y1 y2 y3 y4 y5 y6 y7 y8;clear O1 O3 B3 hb1 hb3 HO HB HB1 S0 S1 SM hl0 hl1;by_cases h1 : k = 1
  · subst h1
    cases b1 <;> cases b2
    all_goals (go_wp2_with fail; go_ret; exact ⟨by rw [<- HVV.out]; simp, HB3.out⟩)
  by_cases h2 : k = 2
  · subst h2
    cases b1 <;> cases b2
    all_goals (go_wp2_with fail; go_ret; exact ⟨by rw [<- HVV.out]; simp, HB3.out⟩)
  have e1 : (k == 1) = false := by simpa using h1
  have e2 : (k == 2) = false := by simpa using h2
  by_cases h3 : k = 3
  · subst h3
    clear h1 h2 e1 e2;cases b1 with
    | false => go_wp2_with fail; go_ret; exact ⟨by rw [<- HVV.out]; simp, HB3.out⟩
    | true =>
      go_wp2_with fail
      refine (MY.out _ HB3.out).mono ?_; rintro e w4 ⟨rfl, hb4⟩
      have FIN := hZ (below_over HB3.out hb4);cases b3
      all_goals (go_wp2_with fail; go_ret; exact ⟨by rw [<- HVV.out]; simp, FIN.out⟩)
  have e3 : (k == 3) = false := by simpa using h3
  by_cases h4 : k = 4
  · subst h4
    clear h1 h2 h3 e1 e2 e3;cases b0 with
    | false => go_wp2_with fail; go_ret; exact ⟨by rw [<- HVV.out]; simp, HB3.out⟩
    | true =>
      go_wp2_with fail
      refine (MY.out _ HB3.out).mono ?_; rintro e w4 ⟨rfl, hb4⟩
      have FIN := hZ (below_over HB3.out hb4);cases b3
      all_goals (go_wp2_with fail; go_ret; exact ⟨by rw [<- HVV.out]; simp, FIN.out⟩)
  have e4 : (k == 4) = false := by simpa using h4
  have RV : V = false := by rw [<- HVV.out, if_neg (by simp [h1, h2]), if_neg h3, if_neg h4]
  subst RV;clear h1 h2 h3 h4;go_wp2_with fail
  go_ret;exact ⟨rfl, HB3.out⟩
def mayM (m : Mo) : Bool := smallB m.name.data.toList && (decide (m.imps.length <= 20) && (decide (m.decs.length <= 60) && (m.imps.all mayI && m.decs.all mayD)))
theorem all_snoc {α : Type} (p : α -> Bool) (l : List α) (j : Nat) (x : α) (h : l[j]? = some x) : (l.take (j + 1)).all p = ((l.take j).all p && p x) := by
 rw [List.take_add_one, h, List.all_append]; simp
theorem all_part {α : Type} (p : α -> Bool) (l : List α) (j : Nat) (h : (l.take j).all p = false) : l.all p = false := by
 rw [<- List.take_append_drop j l, List.all_append, h]; rfl
theorem rmay6_any (m : Mo) (l : List Value) (w : World) (h : MoAt w l m) (hM : ∀ d ∈ m.decs, many d.typ <= 9000) : Calls Tryz.prog 55 #[.agg l.toArray] w fun e w' => e = .returned (.bool (mayM m)) /\ Below w.heap.size w w' := by
 obtain ⟨Ai, ci, Ad, cd, rfl, z1, z2, z3, hI, hD⟩ := h
 obtain ⟨w0, hw0⟩ : ∃ w0, w0 = w.alloc (.cells #[.string m.name, .slice Ai m.imps.length ci, .slice Ad m.decs.length cd] 25) := ⟨_, rfl⟩
 have B0 : Below w.heap.size w w0 := by rw [hw0]; exact below_new (Below.refl _ _) _
 have O0 : w0.heap[w.heap.size]? = some (.cells #[.string m.name, .slice Ai m.imps.length ci, .slice Ad m.decs.length cd] 25 (0, 0)) := by rw [hw0]; exact heap_alloc_new w _
 have hl0 : w.heap.size < w0.heap.size := by rw [hw0]; simp
 have S0 := hZ (fun w => refSmall_any m.name w z1)
 obtain ⟨V, hV⟩ : ∃ V, mayM m = V := ⟨_, rfl⟩
 rw [hV]
 have HV : Hid ((smallB m.name.data.toList && (decide (m.imps.length <= 20) && (decide (m.decs.length <= 60) && (m.imps.all mayI && m.decs.all mayD)))) = V) := hZ hV
 obtain ⟨ni, hni⟩ : ∃ ni, ni = m.imps.length := ⟨_, rfl⟩
 obtain ⟨nd, hnd⟩ : ∃ nd, nd = m.decs.length := ⟨_, rfl⟩
 rw [<- hni] at z2 O0 hw0 HV
 rw [<- hnd] at z3 O0 hw0 HV
 rw [<- hni, <- hnd]
 have HNI := hZ hni
 have HND := hZ hnd
 have HI := hZ (hI.below B0)
 have HD := hZ (hD.below B0)
 have HM := hZ hM
 have x0 := cZ O0 0
 simp at x0
 have HO := hZ O0
 have HB := hZ B0
 have HW0 := hZ hw0
 generalize smallB m.name.data.toList = b0 at S0 HV
 clear hV hI hD hM hw0 B0 O0 hni hnd z1
 go_enter Tryz.func55, Tryz.ntmps55
 go_upto_region 1 with fail
 rw [<- HW0.out]
 clear HW0
 go_wp2_with fail
 refine (S0.out _).mono ?_; rintro e w1 ⟨rfl, hb1⟩
 have O1 := (hb1.block _ hl0).trans HO.out
 have HO1 := hZ O1
 have x1 := cZ O1 1
 have x2 := cZ O1 2
 simp at x1 x2
 have HB1 := hZ (below_over HB.out hb1)
 have HI1 := hZ (HI.out.below hb1)
 have HD1 := hZ (HD.out.below hb1)
 have hl1 := Nat.lt_of_lt_of_le hl0 hb1.size
 clear x0 hb1 O1 HB HI HD HO hl0 S0
 cases b0 with
 | false =>
  go_wp2_with fail
  go_ret;exact ⟨by rw [<- HV.out]; rfl, HB1.out⟩
 | true =>
 by_cases h20 : 20 < ni
 ·have e1 : (20 : Int) < ni := by omega
  have e2 : decide (ni <= 20) = false := by simp; omega
  go_wp2_with fail
  go_ret;exact ⟨by rw [<- HV.out, e2]; rfl, HB1.out⟩
 have e20 : ¬ (20 : Int) < ni := by omega
 by_cases h60 : 60 < nd
 ·have e1 : (60 : Int) < nd := by omega
  have e2 : decide (nd <= 60) = false := by simp; omega
  go_wp2_with fail
  go_ret;exact ⟨by rw [<- HV.out, e2]; simp, HB1.out⟩
 have e60 : ¬ (60 : Int) < nd := by omega
 have HV1 : Hid ((m.imps.all mayI && m.decs.all mayD) = V) := hZ (by
  rw [<- HV.out, decide_eq_true (show ni <= 20 by omega), decide_eq_true (show nd <= 60 by omega)]; rfl)
 clear HV
 go_wp2_with fail
 clear e20 e60
 go_loopw [3, 4] (fun okv iv wr => ∃ (j : Nat) (q : Bool), j <= ni /\ iv = .int .i64 j /\ okv = .bool q /\ Hid ((m.imps.take j).all mayI = q) /\ Below w1.heap.size w1 wr) (fun _ iv _ => ni - (intOf iv).toNat)
 case atStart => exact ⟨0, true, by omega, rfl, rfl, hZ (by simp), Below.refl _ _⟩
 case round =>
  obtain ⟨j, q, hj, rfl, rfl, HQ, hb⟩ := hrel;obtain ⟨wo, rfl⟩ : ∃ wo : World, wo = wr := ⟨_, rfl⟩;have O := (hb.block _ hl1).trans HO1.out;have x1 := cZ O 1;have x2 := cZ O 2;simp at x1 x2;by_cases hgo : j < ni /\ q = true
  ·obtain ⟨hlt, rfl⟩ := hgo
   obtain ⟨x, hx⟩ : ∃ x, m.imps[j]? = some x := ⟨_, List.getElem?_eq_getElem (by rw [<- HNI.out]; exact hlt)⟩;obtain ⟨g, o, rfl, -, a0, a1, a2, a3, y1, y2, y3⟩ := (HI1.out.below hb).im hx;have IM := hZ (rimport0_any x wo y1 y2 y3);have HX := hZ hx;have HBo := hZ hb;clear hx O x2 y1 y2 y3 hb;go_wp2_with fail
   refine IM.out.mono ?_; rintro e w3 ⟨rfl, hb3⟩
   have HB3 := hZ (below_over HBo.out hb3);clear hb3 a0 a1 a2 a3 x1;go_wp2_with fail
   go_roundw
   case rel => exact ⟨j + 1, mayI x, by omega, by go_num, rfl, hZ (by rw [all_snoc _ _ _ _ HX.out, HQ.out]; rfl), HB3.out⟩
   case measure => simp [intOf]; omega
  ·have hstop : ni <= j \/ q = false := by
    rcases Nat.lt_or_ge j ni with a | a
    ·cases q with
     | true => exact absurd ⟨a, rfl⟩ hgo
     | false => exact .inr rfl
    ·exact .inl a
   have HQ2 : Hid (m.imps.all mayI = q) := hZ (by
    rcases hstop with a | a
    ·rw [<- HQ.out, List.take_of_length_le (by rw [<- HNI.out]; exact a)]
    ·rw [a] at HQ ⊢
     exact all_part _ _ _ HQ.out)
   have hcase : ¬ j < ni \/ (j < ni /\ q = false) := by
    rcases Nat.lt_or_ge j ni with a | a
    ·rcases hstop with b | b
     ·omega
     ·exact .inr ⟨a, b⟩
    ·exact .inl (by omega)
   clear hgo hstop HQ O;rcases hcase with hc | ⟨hc, rfl⟩
   all_goals
    go_wp2_with fail
    go_loopw [3, 5] (fun okv iv wr => ∃ (j : Nat) (p : Bool), j <= nd /\ iv = .int .i64 j /\ okv = .bool p /\ Hid ((m.imps.all mayI && (m.decs.take j).all mayD) = p) /\ Below w1.heap.size w1 wr) (fun _ iv _ => nd - (intOf iv).toNat)
    case atStart => exact ⟨0, _, by omega, rfl, rfl, hZ (by rw [HQ2.out]; simp), hb⟩
    case round =>
     obtain ⟨k, p, hk, rfl, rfl, HP, hb2⟩ := hrel;obtain ⟨wi, rfl⟩ : ∃ wi : World, wi = wr := ⟨_, rfl⟩;have O := (hb2.block _ hl1).trans HO1.out;have x2 := cZ O 2;simp at x2;clear x1;by_cases hgo : k < nd /\ p = true
     ·obtain ⟨hlt, rfl⟩ := hgo
      obtain ⟨x, hx⟩ : ∃ x, m.decs[k]? = some x := ⟨_, List.getElem?_eq_getElem (by rw [<- HND.out]; exact hlt)⟩;obtain ⟨g, o, v0, v1, v2, v3, v4, v5, v6, rfl, -, a0, a1, u0, u1, u2, u3, u4, u5, u6, us, zs⟩ := (HD1.out.below hb2).de hx;obtain ⟨An, cA, As, cS, ev, -⟩ := us.parts;simp only [List.cons.injEq, and_true] at ev;obtain ⟨rfl, rfl, rfl, rfl, rfl, rfl, rfl⟩ := ev;have RD := hZ (rdecl0_any x.kind x.name x.typ An As cA cS wi us (HM.out x (List.mem_of_getElem? hx)) zs);have HX := hZ hx;have HBo := hZ hb2;clear hx O us zs hb2;go_wp2_with fail
      refine RD.out.mono ?_; rintro e w3 ⟨rfl, hb3⟩
      have HB3 := hZ (below_over HBo.out hb3);clear hb3 a0 a1 u0 u1 u2 u3 u4 u5 u6 x2;go_wp2_with fail
      go_roundw
      case rel => exact ⟨k + 1, mayD ⟨x.kind, x.name, x.typ⟩, by omega, by go_num, rfl, hZ (by
       have hp := HP.out;rw [Bool.and_eq_true] at hp;rw [all_snoc _ _ _ _ HX.out, hp.1, hp.2]; rfl), HB3.out⟩
      case measure => simp [intOf]; omega
     ·have hstop : nd <= k \/ p = false := by
       rcases Nat.lt_or_ge k nd with a | a
       ·cases p with
        | true => exact absurd ⟨a, rfl⟩ hgo
        | false => exact .inr rfl
       ·exact .inl a
      have FV : Hid (p = V) := hZ (by
       rw [<- HV1.out, <- HP.out];rcases hstop with a | a
       ·rw [List.take_of_length_le (by rw [<- HND.out]; exact a)]
       ·rw [a] at HP
        have hp := HP.out;cases hA : m.imps.all mayI with
        | false => rfl
        | true =>
         rw [hA, Bool.true_and] at hp;rw [Bool.true_and, Bool.true_and, hp, all_part _ _ _ hp])
      have hcase : ¬ k < nd \/ (k < nd /\ p = false) := by
       rcases Nat.lt_or_ge k nd with a | a
       ·rcases hstop with b | b
        ·omega
        ·exact .inr ⟨a, b⟩
       ·exact .inl (by omega)
      have FIN := hZ (below_over HB1.out hb2);clear hgo hstop HP O;rcases hcase with hc2 | ⟨hc2, rfl⟩
      all_goals
       go_wp2_with fail
       go_ret;exact ⟨ret_bool FV.out.symm, FIN.out⟩
def dec (n : Int) : ByteArray := ⟨(Lib.decDigits n.toNat).toArray⟩
end Go.Proofs.YtcdmgcgjonndpaaGreatDoor
namespace Go.Proofs.YtcdmgcgjonndpaaGreatDoor.M
def rowOf (L : List (List UInt8)) (ns : List ByteArray) : Nat -> List UInt8
  | 0 => []
  | k + 1 => (if 0 < k then rowOf L ns k ++ [44, 32] else rowOf L ns k) ++ (if 0 < ns.length then (nameAt ns k).data.toList ++ [58, 32] else []) ++ L.getD k []
def kindText (k : Int) (p : ByteArray) (m : Int) (d n : ByteArray) (ns : List ByteArray) (L : List (List UInt8)) : List UInt8 :=
  if k = 1 then [73, 110, 116]
  else if k = 2 then [84, 101, 120, 116]
  else if k = 3 then [66, 111, 111, 108]
  else if k = 4 then [76, 105, 115, 116, 40] ++ L.getD 0 [] ++ [41]
  else if k = 5 then [123] ++ rowOf L ns L.length ++ [125]
  else if k = 6 then [91] ++ rowOf L ns L.length ++ [93]
  else if k = 7 then [40] ++ rowOf L [] (L.length - 1) ++ [41, 32, 45, 62, 32] ++ L.getD (L.length - 1) []
  else if k = 9 then [60] ++ p.data.toList ++ [32] ++ (dec m).data.toList ++ [32] ++ d.data.toList ++ [32] ++ n.data.toList ++ [62]
  else if d.size = 0 then n.data.toList
  else d.data.toList ++ [46] ++ n.data.toList
mutual
def textT : Ty -> List UInt8
  | .mk k p m d n ns ss => kindText k p m d n ns (textsT ss)
def textsT : List Ty -> List (List UInt8)
  | [] => []
  | t :: r => textT t :: textsT r
end
theorem spell_len {f g : Int -> Bool} {s : ByteArray} (h : spell f g s.data.toList = true) : s.size <= 20 := by
  have := ((spell_iff _ _ _).1 h).2.1
  rwa [len_size] at this
theorem small_len {s : ByteArray} (h : smallB s.data.toList = true) : s.size <= 20 := by
  unfold smallB at h
  simp only [Bool.and_eq_true] at h;exact spell_len h.1
theorem great_len {s : ByteArray} (h : greatB s.data.toList = true) : s.size <= 20 := by
  unfold greatB at h
  simp only [Bool.and_eq_true] at h;exact spell_len h.1
theorem own_names {t : Ty} (h : ownOk t = true) (i : Nat) (hi : i < t.names.length) : (nameAt t.names i).size <= 20 := by
  unfold ownOk at h
  simp only [Bool.and_eq_true] at h;obtain ⟨⟨-, hn⟩, hs⟩ := h;have hb := (namesOk_iff _ _).1 hn i hi;unfold badName at hb
  simp only [Bool.or_eq_false_iff, Bool.and_eq_false_iff, Bool.not_eq_false'] at hb;obtain ⟨⟨h5, h6⟩, -⟩ := hb;by_cases k5 : t.kind = 5
  · rcases h5 with h5 | h5
    · rw [k5] at h5; cases h5
    · exact small_len h5
  by_cases k6 : t.kind = 6
  · rcases h6 with h6 | h6
    · rw [k6] at h6; cases h6
    · exact great_len h6
  exfalso
  unfold shapeOk at hs
  simp only [k5, k6, if_false] at hs;have h0 : t.names.length ≠ 0 := by omega
  (repeat' split at hs) <;> simp_all
end Go.Proofs.YtcdmgcgjonndpaaGreatDoor.M
namespace Go.Proofs.YtcdmgcgjonndpaaGreatDoor.M
open Go
def alnum (c : UInt8) : Bool := anyC (c.toNat : Int)
def Word (l : List UInt8) : Prop := ∀ c ∈ l, alnum c = true
def Halt (l : List UInt8) : Prop := ∀ c r, l = c :: r -> alnum c = false
theorem halt_cons {c : UInt8} {r : List UInt8} (h : alnum c = false) : Halt (c :: r) := fun a s e => by
  simp only [List.cons.injEq] at e;rw [<- e.1]; exact h
theorem word_all {g : Int -> Bool} {f : Int -> Bool} {s : ByteArray} (hf : ∀ n, f n = true -> anyC n = true) (hg : ∀ n, g n = true -> anyC n = true) (h : spell f g s.data.toList = true) : Word s.data.toList := by
  intro c hc;obtain ⟨j, hj, rfl⟩ := List.getElem_of_mem hc;obtain ⟨h0, h1, h2, h3⟩ := (spell_iff _ _ _).1 h;have e : bt s.data.toList j = (((s.data.toList)[j]).toNat : Int) := by unfold bt; rw [List.getD_eq_getElem?_getD, List.getElem?_eq_getElem hj]; rfl
  unfold alnum
  rw [<- e];rcases Nat.eq_zero_or_pos j with h' | h'
  · subst h'; exact hf _ h2
  · exact hg _ (h3 j h' hj)
theorem low_any' (n : Int) (h : lowC n = true) : anyC n = true := by unfold anyC; rw [h]; rfl
theorem up_any' (n : Int) (h : upC n = true) : anyC n = true := by unfold anyC; rw [h]; simp
theorem lowDig_any' (n : Int) (h : lowDigC n = true) : anyC n = true := by
  unfold lowDigC at h; unfold anyC
  rcases Bool.or_eq_true _ _ ▸ h with h | h <;> rw [h] <;> simp
theorem small_spell {s : ByteArray} (h : smallB s.data.toList = true) : spell lowC lowDigC s.data.toList = true := by
  unfold smallB at h; simp only [Bool.and_eq_true] at h; exact h.1
theorem great_spell {s : ByteArray} (h : greatB s.data.toList = true) : spell upC anyC s.data.toList = true := by
  unfold greatB at h; simp only [Bool.and_eq_true] at h; exact h.1
theorem small_word {s : ByteArray} (h : smallB s.data.toList = true) : Word s.data.toList := word_all low_any' lowDig_any' (small_spell h)
theorem great_word {s : ByteArray} (h : greatB s.data.toList = true) : Word s.data.toList := word_all up_any' (fun _ h => h) (great_spell h)
theorem spell_ne {f g : Int -> Bool} {l : List UInt8} (h : spell f g l = true) : l ≠ [] := by
  intro e; subst e
  have := ((spell_iff _ _ _).1 h).1
  simp at this
theorem great_not_word {l : List UInt8} (h : greatB l = true) : l ∉ words := by
  unfold greatB wordB at h
  simp only [Bool.and_eq_true, Bool.not_eq_true', List.contains_eq_mem, decide_eq_false_iff_not] at h;exact h.2
theorem small_not_word {l : List UInt8} (h : smallB l = true) : l ∉ words := by
  intro hm
  have h1 : 97 <= bt l 0 := by
    unfold smallB at h
    simp only [Bool.and_eq_true, spell_iff] at h;have := h.1.2.2.1
    unfold lowC at this
    simp only [Bool.and_eq_true, decide_eq_true_eq] at this;exact this.1
  have h2 : ∀ l ∈ words, bt l 0 < 97 := by decide
  have := h2 l hm
  omega
def Stop (l : List UInt8) : Prop := ∀ c r, l = c :: r -> c = 41 \/ c = 44 \/ c = 125 \/ c = 93
theorem Stop.halt {l : List UInt8} (h : Stop l) : Halt l := fun c r e => by
  rcases h c r e with rfl | rfl | rfl | rfl <;> decide
end Go.Proofs.YtcdmgcgjonndpaaGreatDoor.M
namespace Go.Proofs.YtcdmgcgjonndpaaGreatDoor.M
open Go
theorem empty_bytes {s : ByteArray} (h : s.size = 0) : s = ⟨#[]⟩ := by
  apply bytes_list.1
  exact List.length_eq_zero_iff.1 (by rw [len_size]; exact h)
theorem empty_is : (⟨#[]⟩ : ByteArray) = ByteArray.empty := rfl
theorem no_more {t : Ty} (h : noMore t = true) : t.pkg = ⟨#[]⟩ /\ t.major = 0 /\ t.mod = ⟨#[]⟩ /\ t.name = ⟨#[]⟩ := by
  unfold noMore emptyB at h
  simp only [Bool.and_eq_true, decide_eq_true_eq, beq_iff_eq] at h;exact ⟨empty_bytes h.1.1.1, h.1.1.2, empty_bytes h.1.2, empty_bytes h.2⟩
theorem forms (t : Ty) (h : ownOk t = true) :
    (∃ k, (k = 1 \/ k = 2 \/ k = 3) /\ t = .mk k ⟨#[]⟩ 0 ⟨#[]⟩ ⟨#[]⟩ [] []) \/ (∃ s, t = .mk 4 ⟨#[]⟩ 0 ⟨#[]⟩ ⟨#[]⟩ [] [s]) \/
    (∃ ns ss, t = .mk 5 ⟨#[]⟩ 0 ⟨#[]⟩ ⟨#[]⟩ ns ss /\ ss.length = ns.length /\ ∀ i, i < ns.length -> smallB (nameAt ns i).data.toList = true) \/
    (∃ ns ss, t = .mk 6 ⟨#[]⟩ 0 ⟨#[]⟩ ⟨#[]⟩ ns ss /\ ss.length = ns.length /\ ∀ i, i < ns.length -> greatB (nameAt ns i).data.toList = true) \/
    (∃ ss, t = .mk 7 ⟨#[]⟩ 0 ⟨#[]⟩ ⟨#[]⟩ [] ss /\ 0 < ss.length) \/
    (∃ d n, t = .mk 8 ⟨#[]⟩ 0 d n [] [] /\ greatB n.data.toList = true /\ (smallB d.data.toList = true \/ d = ⟨#[]⟩)) \/
    (∃ p m d n, t = .mk 9 p m d n [] [] /\ smallB p.data.toList = true /\ smallB d.data.toList = true /\ greatB n.data.toList = true /\ 1 <= m) := by
  unfold ownOk at h
  simp only [Bool.and_eq_true] at h;obtain ⟨⟨-, hn⟩, hs⟩ := h;have hbad := (namesOk_iff _ _).1 hn;unfold shapeOk at hs
  by_cases k1 : t.kind = 1 \/ t.kind = 2 \/ t.kind = 3
  · rw [if_pos k1] at hs
    simp only [Bool.and_eq_true, decide_eq_true_eq] at hs;obtain ⟨e1, e2, e3, e4⟩ := no_more hs.1.1;exact .inl ⟨t.kind, k1, ty_ext rfl e1 e2 e3 e4 (List.length_eq_zero_iff.1 hs.2) (List.length_eq_zero_iff.1 hs.1.2)⟩
  rw [if_neg k1] at hs;by_cases k4 : t.kind = 4
  · rw [if_pos k4] at hs
    simp only [Bool.and_eq_true, decide_eq_true_eq] at hs;obtain ⟨e1, e2, e3, e4⟩ := no_more hs.1.1;obtain ⟨s, es⟩ := List.length_eq_one_iff.1 hs.1.2;exact .inr (.inl ⟨s, ty_ext k4 e1 e2 e3 e4 (List.length_eq_zero_iff.1 hs.2) es⟩)
  rw [if_neg k4] at hs;by_cases k5 : t.kind = 5
  · rw [if_pos k5] at hs
    simp only [Bool.and_eq_true, decide_eq_true_eq] at hs;obtain ⟨e1, e2, e3, e4⟩ := no_more hs.1;refine .inr (.inr (.inl ⟨t.names, t.subs, ty_ext k5 e1 e2 e3 e4 rfl rfl, hs.2, fun i hi => ?_⟩));have := hbad i hi
    unfold badName at this
    rw [k5] at this;simp only [Bool.or_eq_false_iff, Bool.and_eq_false_iff, Bool.not_eq_false'] at this;rcases this.1.1 with a | a
    · simp at a
    · exact a
  rw [if_neg k5] at hs;by_cases k6 : t.kind = 6
  · rw [if_pos k6] at hs
    simp only [Bool.and_eq_true, decide_eq_true_eq] at hs;obtain ⟨e1, e2, e3, e4⟩ := no_more hs.1.1;refine .inr (.inr (.inr (.inl ⟨t.names, t.subs, ty_ext k6 e1 e2 e3 e4 rfl rfl, hs.1.2, fun i hi => ?_⟩)));have := hbad i hi
    unfold badName at this
    rw [k6] at this;simp only [Bool.or_eq_false_iff, Bool.and_eq_false_iff, Bool.not_eq_false'] at this;rcases this.1.2 with a | a
    · simp at a
    · exact a
  rw [if_neg k6] at hs;by_cases k7 : t.kind = 7
  · rw [if_pos k7] at hs
    simp only [Bool.and_eq_true, decide_eq_true_eq] at hs;obtain ⟨e1, e2, e3, e4⟩ := no_more hs.1.1;exact .inr (.inr (.inr (.inr (.inl ⟨t.subs, ty_ext k7 e1 e2 e3 e4 (List.length_eq_zero_iff.1 hs.2) rfl, hs.1.2⟩))))
  rw [if_neg k7] at hs;by_cases k8 : t.kind = 8
  · rw [if_pos k8] at hs
    unfold emptyB at hs
    simp only [Bool.and_eq_true, Bool.or_eq_true, decide_eq_true_eq, beq_iff_eq] at hs;obtain ⟨⟨⟨⟨⟨a, b⟩, c⟩, e⟩, f⟩, g⟩ := hs;exact .inr (.inr (.inr (.inr (.inr (.inl ⟨t.mod, t.name, ty_ext k8 (empty_bytes c) e rfl rfl (List.length_eq_zero_iff.1 b) (List.length_eq_zero_iff.1 a), f, g.imp id empty_bytes⟩)))))
  rw [if_neg k8] at hs;by_cases k9 : t.kind = 9
  · rw [if_pos k9] at hs
    simp only [Bool.and_eq_true, decide_eq_true_eq] at hs;obtain ⟨⟨⟨⟨⟨⟨a, b⟩, c⟩, e⟩, f⟩, g⟩, -⟩ := hs;exact .inr (.inr (.inr (.inr (.inr (.inr ⟨t.pkg, t.major, t.mod, t.name, ty_ext k9 rfl rfl rfl rfl (List.length_eq_zero_iff.1 b) (List.length_eq_zero_iff.1 a), c, e, f, g⟩)))))
  rw [if_neg k9] at hs;cases hs
def tag (w r : List UInt8) : Int :=
  if w = [73, 110, 116] then 1 else if w = [84, 101, 120, 116] then 2 else if w = [66, 111, 111, 108] then 3 else if w = [76, 105, 115, 116] then 4
  else if w = [] then (if r.head? = some 123 then 5 else if r.head? = some 91 then 6 else if r.head? = some 40 then 7 else 9) else 8
theorem tag_name {l r : List UInt8} (h : l ≠ []) (hw : l ∉ words) : tag l r = 8 := by
  have h1 : l ≠ [73, 110, 116] := fun e => hw (by rw [e]; decide)
  have h2 : l ≠ [84, 101, 120, 116] := fun e => hw (by rw [e]; decide)
  have h3 : l ≠ [66, 111, 111, 108] := fun e => hw (by rw [e]; decide)
  have h4 : l ≠ [76, 105, 115, 116] := fun e => hw (by rw [e]; decide)
  unfold tag
  rw [if_neg h1, if_neg h2, if_neg h3, if_neg h4, if_neg h]
theorem split (t : Ty) (h : ownOk t = true) : ∃ w r, textT t = w ++ r /\ Word w /\ ∀ x, Stop x -> Halt (r ++ x) /\ tag w (r ++ x) = t.kind := by
  rcases forms t h with ⟨k, hk, rfl⟩ | ⟨s, rfl⟩ | ⟨ns, ss, rfl, -, -⟩ | ⟨ns, ss, rfl, -, -⟩ | ⟨ss, rfl, -⟩ | ⟨d, n, rfl, hn, hd⟩ | ⟨p, m, d, n, rfl, hp, hd, hn, hm⟩
  · rcases hk with rfl | rfl | rfl
    · exact ⟨[73, 110, 116], [], rfl, by unfold Word; decide, fun x hx => ⟨by simpa using hx.halt, rfl⟩⟩
    · exact ⟨[84, 101, 120, 116], [], rfl, by unfold Word; decide, fun x hx => ⟨by simpa using hx.halt, rfl⟩⟩
    · exact ⟨[66, 111, 111, 108], [], rfl, by unfold Word; decide, fun x hx => ⟨by simpa using hx.halt, rfl⟩⟩
  · exact ⟨[76, 105, 115, 116], [40] ++ textT s ++ [41], by simp [textT, kindText, textsT], by unfold Word; decide, fun x hx => ⟨halt_cons (by decide), rfl⟩⟩
  · exact ⟨[], _, (List.nil_append _).symm, by unfold Word; decide, fun x hx => by simp only [textT, kindText]; exact ⟨halt_cons (by decide), rfl⟩⟩
  · exact ⟨[], _, (List.nil_append _).symm, by unfold Word; decide, fun x hx => by simp only [textT, kindText]; exact ⟨halt_cons (by decide), rfl⟩⟩
  · exact ⟨[], _, (List.nil_append _).symm, by unfold Word; decide, fun x hx => by simp only [textT, kindText]; exact ⟨halt_cons (by decide), rfl⟩⟩
  · rcases hd with hd | rfl
    · have hne := spell_ne (small_spell hd)
      have hz : d.size ≠ 0 := fun e => hne (List.length_eq_zero_iff.1 (by rw [len_size]; exact e))
      exact ⟨d.data.toList, [46] ++ n.data.toList, by simp [textT, kindText, hz], small_word hd, fun x hx => ⟨halt_cons (by decide), tag_name hne (small_not_word hd)⟩⟩
    · exact ⟨n.data.toList, [], by simp [textT, kindText, empty_is], great_word hn, fun x hx => ⟨by simpa using hx.halt, tag_name (spell_ne (great_spell hn)) (great_not_word hn)⟩⟩
  · exact ⟨[], _, (List.nil_append _).symm, by unfold Word; decide, fun x hx => by simp only [textT, kindText]; exact ⟨halt_cons (by decide), rfl⟩⟩
end Go.Proofs.YtcdmgcgjonndpaaGreatDoor.M
namespace Go.Proofs.YtcdmgcgjonndpaaGreatDoor.M
open Go
end Go.Proofs.YtcdmgcgjonndpaaGreatDoor.M
