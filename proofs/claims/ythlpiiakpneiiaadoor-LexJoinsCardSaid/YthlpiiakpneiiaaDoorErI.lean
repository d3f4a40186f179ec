/-
  errors.Is at an error that is a *Spot whose Err is a Code, held against that Code: the library's own text walked.
-/
import Derived.Test.YthlpiiakpneiiaaDoorChecked
import Derived.WalkKit
import Derived.LaidEql
import Derived.Stop.Asserts
import Derived.RowKitTokens
import Derived.Lib.IfaceEq
namespace Go.Proofs.YthlpiiakpneiiaaDoor
open Go.RowKit Go.Extern.Stop Go.Stop Go.Extern

theorem sp_typeOfC (v : Value) (w : World) : (ReflectliteType.typeOf #[.iface 28 v]).run Tryd.prog w = .ok (.iface 77 (.agg #[.pointer (some ⟨2, 28, none⟩)])) w := by kernel_rfl
theorem sp_methodComparable (h : Value) (w : World) : (Go.method 222 77 (.agg #[h]) "Comparable").run Tryd.prog w = .ok (80, .agg #[h]) w := by kernel_rfl
theorem sp_comparableC (w : World) : ((ReflectliteType.method fun t => do Rtype.noPackHeld "Comparable" t; (fun a => Value.bool a.comparable) <$> typeInfo t) #[.agg #[.pointer (some ⟨2, 28, none⟩)]]).run Tryd.prog w = .ok (.bool true) w := by kernel_rfl
theorem sp_comp : (Tryd.prog.info? 28).map (·.comparable) = some true := by kernel_rfl
theorem sp_noIs (v : Value) (xT : TypeId) (w : World) : (Instr.typeAssert (.iface 41 v) xT 89 true).run Tryd.prog w = .ok (.tuple #[.nilIface, .bool false]) w := run_typeAssert_lacksB Tryd.underlying89 (by kernel_rfl) (by kernel_rfl) v xT w
theorem sp_hasUnwrap (v : Value) (xT : TypeId) (w : World) : (Instr.typeAssert (.iface 41 v) xT 84 true).run Tryd.prog w = .ok (.tuple #[.iface 41 v, .bool true]) w := run_typeAssert_hasB Tryd.underlying84 (by kernel_rfl) v xT w
theorem sp_methodUnwrap (v : Value) (w : World) : (Go.method 222 41 v "Unwrap").run Tryd.prog w = .ok (73, v) w := by kernel_rfl

/-- errors.Is(e, c), e a *Spot whose Err is the Code c. -/
theorem is_spot (b : Nat) (c : Int) (w : World) (h1 : w.cell? ⟨b, 1, none⟩ = some (.iface 28 (.int .i64 c))) :
    Calls Tryd.prog 17 #[.iface 41 (.pointer (some ⟨b, 0, none⟩)), .iface 28 (.int .i64 c)] w fun e w' => e = .returned (.bool true) ∧ w' = w := by
  have h8 := @run_callFunc_extern Tryd.prog 33 _ ReflectliteType.typeOf Tryd.func33 (by kernel_rfl) (by kernel_rfl) (by kernel_rfl) (by kernel_rfl)
  have h32 := @run_callFunc_extern Tryd.prog 80 _ (ReflectliteType.method fun t => do Rtype.noPackHeld "Comparable" t; pure (.bool (← typeInfo t).comparable)) Tryd.func80 (by kernel_rfl) (by kernel_rfl) (by kernel_rfl) (by kernel_rfl)
  have tT := sp_typeOfC
  have cT := sp_comparableC
  have mR := sp_methodComparable
  have nE := sp_noIs
  have uW := sp_hasUnwrap
  have mU := sp_methodUnwrap
  have heq := Lib.run_eql_iface_int (P := Tryd.prog) (k := .i64) w c c Tryd.underlying25 sp_comp Tryd.underlying28
  have hty := run_eql_iface_types (P := Tryd.prog) 41 28 (.pointer (some ⟨b, 0, none⟩)) (.int .i64 c) Tryd.underlying25 (by decide) w
  go_enter Tryd.func17, Tryd.ntmps17
  go_wp2
  refine wp_loop_rounds 2 ?_
  rw [rounds_succ]
  go_wp2
  rw [rounds_succ]
  go_wp2
  go_ret
  exact ⟨rfl, rfl⟩

end Go.Proofs.YthlpiiakpneiiaaDoor
