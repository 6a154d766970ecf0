/- errors.Is by its contracts, for what this program hands it: nil, and its own errors. -/
import Derived.Test.YtdiebkaedjlckaaDoorBase
import Derived.LaidEql
import Derived.Stop.Asserts
import Derived.RowKitTokens
import Derived.Stop.LaidTwo
import Derived.Test.YtdiebkaedjlckaaDoorFU
import Derived.Test.YtdiebkaedjlckaaDoorC1k
import Derived.Defers
import Derived.Deep.RegionHeld3
namespace Go.Proofs.YtdiebkaedjlckaaDoor
section
open Go.ChangeShapes Go.WideShapes Go.ChangeAt Go.RowKit Go.Extern.Stop Go.Stop Go.Extern
set_option linter.unusedSimpArgs false
set_option linter.unusedVariables false
set_option maxRecDepth 10000

/-- An error of this program's own, at a place. -/
abbrev errAt (a : Addr) : Value := .iface 172 (.pointer (some a))
theorem erTypeOf (v : Value) (w : World) : (Extern.ReflectliteType.typeOf #[.iface 172 v]).run Tryd.prog w = .ok (.iface 161 (.agg #[.pointer (some ⟨4, 172, none⟩)])) w := by kernel_rfl
/-- What Comparable's own entry is. -/
noncomputable def erCmp : Array Value → Sem Value := (Extern.find Tryd.f167).getD (fun _ => pure .nilIface)
theorem erComparable (w : World) : (erCmp #[.agg #[.pointer (some ⟨4, 172, none⟩)]]).run Tryd.prog w = .ok (.bool true) w := by kernel_rfl
theorem erMethod (k : Nat) (v : Value) (w : World) : (Go.method (k + 1) 161 v "Comparable").run Tryd.prog w = .ok (167, v) w := by kernel_rfl
theorem erComp : (Tryd.prog.info? 172).map (·.comparable) = some true := by kernel_rfl
theorem erSize : (Tryd.prog.info? 198).map (·.size) = some 1 := by kernel_rfl
theorem erNoIs (v : Value) (xT : TypeId) (w : World) : (Instr.typeAssert (.iface 172 v) xT 163 true).run Tryd.prog w = .ok (.tuple #[.nilIface, .bool false]) w := run_typeAssert_lacksB Tryd.underlying163 (by kernel_rfl) (by kernel_rfl) v xT w
theorem erNoUnwrap (v : Value) (xT : TypeId) (w : World) : (Instr.typeAssert (.iface 172 v) xT 166 true).run Tryd.prog w = .ok (.tuple #[.nilIface, .bool false]) w := run_typeAssert_lacksB Tryd.underlying166 (by kernel_rfl) (by kernel_rfl) v xT w
theorem erNoUnwraps (v : Value) (xT : TypeId) (w : World) : (Instr.typeAssert (.iface 172 v) xT 167 true).run Tryd.prog w = .ok (.tuple #[.nilIface, .bool false]) w := run_typeAssert_lacksB Tryd.underlying167 (by kernel_rfl) (by kernel_rfl) v xT w

set_option maxHeartbeats 1000000 in
theorem isNil_any (b : Addr) (w : World) : Calls Tryd.prog 103 #[.nilIface, errAt b] w fun e w' => e = .returned (.bool false) ∧ w = w' := by
  have hn := run_eql_iface_nil_left (P := Tryd.prog) w 172 (.pointer (some b)) Tryd.underlying82
  go_enter Tryd.func103, Tryd.ntmps103
  go_wp2
  go_ret
  exact ⟨rfl, rfl⟩

set_option maxHeartbeats 1000000 in
theorem isSame_any (a : Addr) (w : World) : Calls Tryd.prog 103 #[errAt a, errAt a] w fun e w' => e = .returned (.bool true) ∧ w = w' := by
  obtain ⟨i, hi, hcmp⟩ := Option.map_eq_some_iff.1 erComp
  obtain ⟨j, hj, hjs⟩ := Option.map_eq_some_iff.1 erSize
  have h8 := @run_callFunc_extern Tryd.prog 127 _ Extern.ReflectliteType.typeOf Tryd.func127 (by kernel_rfl) (by kernel_rfl) (by kernel_rfl) (by kernel_rfl)
  have h32 := @run_callFunc_extern Tryd.prog 167 _ erCmp Tryd.func167 (by kernel_rfl) (by kernel_rfl) (by kernel_rfl) (by kernel_rfl)
  have tT := erTypeOf
  have cT := erComparable
  have mR := erMethod
  have heq := run_eql_iface_ptr_same (P := Tryd.prog) w a Tryd.underlying82 Tryd.underlying172 hi hcmp hj
  go_enter Tryd.func103, Tryd.ntmps103
  go_wp2
  refine wp_loop_rounds 1 ?_
  rw [rounds_succ]
  go_wp2
  go_ret
  exact ⟨rfl, rfl⟩

set_option maxHeartbeats 1000000 in
theorem isOther_any (a b : Addr) (ca cb : Array Value) (ta tb : TypeId) (w : World) (hne : a ≠ b) (ha : w.heap[a.block]? = some (.cells ca ta (0, 0))) (hb : w.heap[b.block]? = some (.cells cb tb (0, 0))) :
    Calls Tryd.prog 103 #[errAt a, errAt b] w fun e w' => e = .returned (.bool false) ∧ w = w' := by
  obtain ⟨i, hi, hcmp⟩ := Option.map_eq_some_iff.1 erComp
  obtain ⟨j, hj, hjs⟩ := Option.map_eq_some_iff.1 erSize
  have h8 := @run_callFunc_extern Tryd.prog 127 _ Extern.ReflectliteType.typeOf Tryd.func127 (by kernel_rfl) (by kernel_rfl) (by kernel_rfl) (by kernel_rfl)
  have h32 := @run_callFunc_extern Tryd.prog 167 _ erCmp Tryd.func167 (by kernel_rfl) (by kernel_rfl) (by kernel_rfl) (by kernel_rfl)
  have tT := erTypeOf
  have cT := erComparable
  have mR := erMethod
  have nE := erNoIs
  have uE := erNoUnwrap
  have vE := erNoUnwraps
  have heq := run_eql_iface_ptr_other (P := Tryd.prog) w Tryd.underlying82 Tryd.underlying172 hi hcmp hj (by rw [hjs]; decide) hne ha hb
  go_enter Tryd.func103, Tryd.ntmps103
  go_wp2
  refine wp_loop_rounds 1 ?_
  rw [rounds_succ]
  go_wp2
  go_ret
  exact ⟨rfl, rfl⟩
end
section
open Go.ChangeShapes Go.WideShapes Go.ChangeAt Go.RowKit
set_option linter.unusedSimpArgs false
set_option linter.unusedVariables false
set_option maxRecDepth 10000

/-- The error of a way in which a call ends. -/
def errV (a0 a1 a2 : Addr) (st : Int) : Value := if st = 2 then errAt a0 else if st = 3 then errAt a1 else if st = 4 then errAt a2 else .nilIface
/-- The program's variables hold their errors, in blocks below B, which are different ones. -/
def Errs (w : World) (B : Nat) (a0 a1 a2 : Addr) : Prop :=
  ((0 < B ∧ 1 < B ∧ 2 < B) ∧ a0.block < B ∧ a1.block < B ∧ a2.block < B) ∧ (w.cell? ⟨0, 0, none⟩ = some (errAt a0) ∧ w.cell? ⟨1, 0, none⟩ = some (errAt a1) ∧ w.cell? ⟨2, 0, none⟩ = some (errAt a2)) ∧
  (a0 ≠ a1 ∧ a0 ≠ a2 ∧ a1 ≠ a2) ∧ (∃ c t, w.heap[a0.block]? = some (.cells c t (0, 0))) ∧ (∃ c t, w.heap[a1.block]? = some (.cells c t (0, 0))) ∧ (∃ c t, w.heap[a2.block]? = some (.cells c t (0, 0)))
theorem Errs.blocks {w w' : World} {B : Nat} {a0 a1 a2 : Addr} (h : Errs w B a0 a1 a2) (hk : ∀ k, k < B → w'.heap[k]? = w.heap[k]?) : Errs w' B a0 a1 a2 := by
  obtain ⟨⟨⟨k0, k1, k2⟩, h1, h2, h3⟩, ⟨g0, g1, g2⟩, hne, r0, r1, r2⟩ := h
  refine ⟨⟨⟨k0, k1, k2⟩, h1, h2, h3⟩, ⟨?_, ?_, ?_⟩, hne, ?_, ?_, ?_⟩
  · exact (World.cell?_of_block (w := w) (a := ⟨0, 0, none⟩) (hk 0 k0)).trans g0
  · exact (World.cell?_of_block (w := w) (a := ⟨1, 0, none⟩) (hk 1 k1)).trans g1
  · exact (World.cell?_of_block (w := w) (a := ⟨2, 0, none⟩) (hk 2 k2)).trans g2
  · rw [hk _ h1]; exact r0
  · rw [hk _ h2]; exact r1
  · rw [hk _ h3]; exact r2
theorem Errs.below {w w' : World} {B C : Nat} {a0 a1 a2 : Addr} (h : Errs w B a0 a1 a2) (hb : Below C w w') (hB : B ≤ C) : Errs w' B a0 a1 a2 := h.blocks fun k hk => hb.block k (by omega)
theorem Errs.turn {w w' : World} {B C b : Nat} {a0 a1 a2 : Addr} (h : Errs w B a0 a1 a2) (hb : Turn C b w w') (hB : B ≤ C) (hbB : B ≤ b) : Errs w' B a0 a1 a2 := h.blocks fun k hk => hb.2.2.2.2 k (by omega) (by omega)
/-- A variable that holds another error beside them. -/
def Errs4 (w : World) (B : Nat) (a0 a1 a2 a3 : Addr) : Prop :=
  Errs w B a0 a1 a2 ∧ a3.block < B ∧ (∃ c t, w.heap[a3.block]? = some (.cells c t (0, 0))) ∧ (a3 ≠ a0 ∧ a3 ≠ a1 ∧ a3 ≠ a2) ∧ ∃ g, g < B ∧ w.cell? ⟨g, 0, none⟩ = some (errAt a3)

set_option maxHeartbeats 1000000 in
theorem failureOf_any {w : World} {B : Nat} {a0 a1 a2 : Addr} {st : Int} (h : Errs w B a0 a1 a2) (hs : endSt st) :
    Calls Tryd.prog 126 #[.int .i64 st] w fun e w' => e = .returned (errV a0 a1 a2 st) ∧ w = w' := by
  obtain ⟨_, ⟨g0, g1, g2⟩, _⟩ := h
  rcases hs with rfl | rfl | rfl | rfl
  all_goals
    go_enter Tryd.func126, Tryd.ntmps126
    go_wp2
    go_ret
    exact ⟨rfl, rfl⟩
set_option maxHeartbeats 2000000 in
theorem endOf_any {w : World} {B : Nat} {a0 a1 a2 : Addr} {st : Int} (h : Errs w B a0 a1 a2) (hs : endSt st) :
    Calls Tryd.prog 68 #[errV a0 a1 a2 st] w fun e w' => e = .returned (.int .i64 st) ∧ w = w' := by
  obtain ⟨_, ⟨g0, g1, g2⟩, ⟨n01, n02, n12⟩, ⟨c0, t0, r0⟩, ⟨c1, t1, r1⟩, ⟨c2, t2, r2⟩⟩ := h
  have S0 := Lib.hid (isSame_any a0 w)
  have S1 := Lib.hid (isSame_any a1 w)
  have S2 := Lib.hid (isSame_any a2 w)
  have O10 := Lib.hid (isOther_any a1 a0 c1 c0 t1 t0 w (Ne.symm n01) r1 r0)
  have O20 := Lib.hid (isOther_any a2 a0 c2 c0 t2 t0 w (Ne.symm n02) r2 r0)
  have O21 := Lib.hid (isOther_any a2 a1 c2 c1 t2 t1 w (Ne.symm n12) r2 r1)
  rcases hs with rfl | rfl | rfl | rfl
  · show Calls _ _ #[.nilIface] _ _
    go_enter Tryd.func68, Tryd.ntmps68
    go_wp2
    go_ret
    exact ⟨rfl, rfl⟩
  · show Calls _ _ #[errAt a0] _ _
    go_enter Tryd.func68, Tryd.ntmps68
    go_wp2_with fail
    refine S0.out.mono ?_
    rintro e w1 ⟨rfl, rfl⟩
    go_wp2
    go_ret
    exact ⟨rfl, rfl⟩
  · show Calls _ _ #[errAt a1] _ _
    go_enter Tryd.func68, Tryd.ntmps68
    go_wp2_with fail
    refine O10.out.mono ?_
    rintro e w1 ⟨rfl, rfl⟩
    go_wp2_with fail
    refine S1.out.mono ?_
    rintro e w1 ⟨rfl, rfl⟩
    go_wp2
    go_ret
    exact ⟨rfl, rfl⟩
  · show Calls _ _ #[errAt a2] _ _
    go_enter Tryd.func68, Tryd.ntmps68
    go_wp2_with fail
    refine O20.out.mono ?_
    rintro e w1 ⟨rfl, rfl⟩
    go_wp2_with fail
    refine O21.out.mono ?_
    rintro e w1 ⟨rfl, rfl⟩
    go_wp2_with fail
    refine S2.out.mono ?_
    rintro e w1 ⟨rfl, rfl⟩
    go_wp2
    go_ret
    exact ⟨rfl, rfl⟩

set_option maxHeartbeats 2000000 in
theorem endOf_place {w : World} {B : Nat} {a0 a1 a2 a3 : Addr} (h : Errs4 w B a0 a1 a2 a3) :
    Calls Tryd.prog 68 #[errAt a3] w fun e w' => e = .returned (.int .i64 5) ∧ w = w' := by
  obtain ⟨⟨_, ⟨g0, g1, g2⟩, _, ⟨c0, t0, r0⟩, ⟨c1, t1, r1⟩, ⟨c2, t2, r2⟩⟩, _, ⟨c3, t3, r3⟩, ⟨n0, n1, n2⟩, _⟩ := h
  have O0 := Lib.hid (isOther_any a3 a0 c3 c0 t3 t0 w n0 r3 r0)
  have O1 := Lib.hid (isOther_any a3 a1 c3 c1 t3 t1 w n1 r3 r1)
  have O2 := Lib.hid (isOther_any a3 a2 c3 c2 t3 t2 w n2 r3 r2)
  go_enter Tryd.func68, Tryd.ntmps68
  go_wp2_with fail
  refine O0.out.mono ?_
  rintro e w1 ⟨rfl, rfl⟩
  go_wp2_with fail
  refine O1.out.mono ?_
  rintro e w1 ⟨rfl, rfl⟩
  go_wp2_with fail
  refine O2.out.mono ?_
  rintro e w1 ⟨rfl, rfl⟩
  go_wp2
  go_ret
  exact ⟨rfl, rfl⟩

set_option maxHeartbeats 1000000 in
theorem flushDefer_any {A A' A2 : Option Addr} {n c n' c' n2 c2 b kb kc m q0 : Nat} {p z : Int} {u : FrameMode} {w : World} (hX : Box w b [.slice (A) n c, .int .i64 (p), .slice (A') n' c', .int .i64 ((q0 : Int)), .slice (A2) n2 c2, .int .i64 (z)]) (hb : Box w kb [.pointer (some ⟨b, 0, none⟩)]) (hc : Box w kc [.int .i64 (m : Int)]) (hq : q0 ≤ 1000) (hm : m ≤ 1000) :
    CallsD Tryd.prog 124 #[.pointer (some ⟨kb, 0, none⟩), .pointer (some ⟨kc, 0, none⟩)] u w fun e u' w' => u' = u ∧ (e = .returned (.tuple #[]) ∧ w' = w.drew.setCell ⟨b, 3, none⟩ (.int .i64 ((q0 : Int) + (m : Int)))) := by
  have x3 := (hX.2 3 _ rfl).1
  have f3 := (hX.2 3 _ rfl).2
  have k0 := (hb.2 0 _ rfl).1
  have c0 := (hc.2 0 _ rfl).1
  have hw : IntKind.i64.wrap ((q0 : Int) + (m : Int)) = (q0 : Int) + (m : Int) := IntWalk.i64_in _ (by omega)
  clear hX hb hc
  go_enter_d Tryd.func124, Tryd.ntmps124
  go_wp2_with fail
  go_still_tail 10, (by kernel_rfl)
  change wpList _ _ _ _ _ w.drew
  go_wp2
  go_end0
  exact ⟨rfl, rfl⟩
end
end Go.Proofs.YtdiebkaedjlckaaDoor
