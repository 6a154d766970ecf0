/- errors.Is by its contracts, for what this program hands it: nil, and its own errors. -/
import Derived.Test.YtphkkalkajleiaaDoorBase
import Derived.LaidEql
import Derived.Stop.Asserts
import Derived.RowKitTokens
import Derived.Stop.LaidTwo
namespace Go.Proofs.YtphkkalkajleiaaDoor
open Go.ChangeShapes Go.WideShapes Go.ChangeAt Go.RowKit Go.Extern.Stop Go.Stop Go.Extern
set_option linter.unusedSimpArgs false
set_option linter.unusedVariables false
set_option maxRecDepth 10000

/-- An error of this program's own, at a place. -/
abbrev errAt (a : Addr) : Value := .iface 156 (.pointer (some a))
theorem erTypeOf (v : Value) (w : World) : (Extern.ReflectliteType.typeOf #[.iface 156 v]).run Tryd.prog w = .ok (.iface 142 (.agg #[.pointer (some ⟨4, 156, none⟩)])) w := by kernel_rfl
/-- What Comparable's own entry is. -/
noncomputable def erCmp : Array Value → Sem Value := (Extern.find Tryd.f157).getD (fun _ => pure .nilIface)
theorem erComparable (w : World) : (erCmp #[.agg #[.pointer (some ⟨4, 156, none⟩)]]).run Tryd.prog w = .ok (.bool true) w := by kernel_rfl
theorem erMethod (k : Nat) (v : Value) (w : World) : (Go.method (k + 1) 142 v "Comparable").run Tryd.prog w = .ok (157, v) w := by kernel_rfl
theorem erComp : (Tryd.prog.info? 156).map (·.comparable) = some true := by kernel_rfl
theorem erSize : (Tryd.prog.info? 181).map (·.size) = some 1 := by kernel_rfl
theorem erNoIs (v : Value) (xT : TypeId) (w : World) : (Instr.typeAssert (.iface 156 v) xT 144 true).run Tryd.prog w = .ok (.tuple #[.nilIface, .bool false]) w := run_typeAssert_lacksB Tryd.underlying144 (by kernel_rfl) (by kernel_rfl) v xT w
theorem erNoUnwrap (v : Value) (xT : TypeId) (w : World) : (Instr.typeAssert (.iface 156 v) xT 147 true).run Tryd.prog w = .ok (.tuple #[.nilIface, .bool false]) w := run_typeAssert_lacksB Tryd.underlying147 (by kernel_rfl) (by kernel_rfl) v xT w
theorem erNoUnwraps (v : Value) (xT : TypeId) (w : World) : (Instr.typeAssert (.iface 156 v) xT 148 true).run Tryd.prog w = .ok (.tuple #[.nilIface, .bool false]) w := run_typeAssert_lacksB Tryd.underlying148 (by kernel_rfl) (by kernel_rfl) v xT w

set_option maxHeartbeats 1000000 in
theorem isNil_any (b : Addr) (w : World) : Calls Tryd.prog 100 #[.nilIface, errAt b] w fun e w' => e = .returned (.bool false) ∧ w = w' := by
  have hn := run_eql_iface_nil_left (P := Tryd.prog) w 156 (.pointer (some b)) Tryd.underlying74
  go_enter Tryd.func100, Tryd.ntmps100
  go_wp2
  go_ret
  exact ⟨rfl, rfl⟩

set_option maxHeartbeats 1000000 in
theorem isSame_any (a : Addr) (w : World) : Calls Tryd.prog 100 #[errAt a, errAt a] w fun e w' => e = .returned (.bool true) ∧ w = w' := by
  obtain ⟨i, hi, hcmp⟩ := Option.map_eq_some_iff.1 erComp
  obtain ⟨j, hj, hjs⟩ := Option.map_eq_some_iff.1 erSize
  have h8 := @run_callFunc_extern Tryd.prog 120 _ Extern.ReflectliteType.typeOf Tryd.func120 (by kernel_rfl) (by kernel_rfl) (by kernel_rfl) (by kernel_rfl)
  have h32 := @run_callFunc_extern Tryd.prog 157 _ erCmp Tryd.func157 (by kernel_rfl) (by kernel_rfl) (by kernel_rfl) (by kernel_rfl)
  have tT := erTypeOf
  have cT := erComparable
  have mR := erMethod
  have heq := run_eql_iface_ptr_same (P := Tryd.prog) w a Tryd.underlying74 Tryd.underlying156 hi hcmp hj
  go_enter Tryd.func100, Tryd.ntmps100
  go_wp2
  refine wp_loop_rounds 1 ?_
  rw [rounds_succ]
  go_wp2
  go_ret
  exact ⟨rfl, rfl⟩

set_option maxHeartbeats 1000000 in
theorem isOther_any (a b : Addr) (ca cb : Array Value) (ta tb : TypeId) (w : World) (hne : a ≠ b) (ha : w.heap[a.block]? = some (.cells ca ta (0, 0))) (hb : w.heap[b.block]? = some (.cells cb tb (0, 0))) :
    Calls Tryd.prog 100 #[errAt a, errAt b] w fun e w' => e = .returned (.bool false) ∧ w = w' := by
  obtain ⟨i, hi, hcmp⟩ := Option.map_eq_some_iff.1 erComp
  obtain ⟨j, hj, hjs⟩ := Option.map_eq_some_iff.1 erSize
  have h8 := @run_callFunc_extern Tryd.prog 120 _ Extern.ReflectliteType.typeOf Tryd.func120 (by kernel_rfl) (by kernel_rfl) (by kernel_rfl) (by kernel_rfl)
  have h32 := @run_callFunc_extern Tryd.prog 157 _ erCmp Tryd.func157 (by kernel_rfl) (by kernel_rfl) (by kernel_rfl) (by kernel_rfl)
  have tT := erTypeOf
  have cT := erComparable
  have mR := erMethod
  have nE := erNoIs
  have uE := erNoUnwrap
  have vE := erNoUnwraps
  have heq := run_eql_iface_ptr_other (P := Tryd.prog) w Tryd.underlying74 Tryd.underlying156 hi hcmp hj (by rw [hjs]; decide) hne ha hb
  go_enter Tryd.func100, Tryd.ntmps100
  go_wp2
  refine wp_loop_rounds 1 ?_
  rw [rounds_succ]
  go_wp2
  go_ret
  exact ⟨rfl, rfl⟩
end Go.Proofs.YtphkkalkajleiaaDoor
