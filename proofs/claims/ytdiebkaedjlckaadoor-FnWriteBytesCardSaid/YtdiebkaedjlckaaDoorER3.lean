/- A law's first and last step where the program's errors are laid: what the variables hold; a world to begin with; the variables are as they were. -/
import Derived.Test.YtdiebkaedjlckaaDoorER2
import Derived.Test.YtdiebkaedjlckaaDoorLawBase
import Derived.Stop.LaidErr
import Derived.LaidMore
import Derived.Stop.Joined
import Derived.WalkSmall
import Derived.SevenTiedAt
namespace Go.Proofs.YtdiebkaedjlckaaDoor
open Go.ChangeShapes Go.WideShapes Go.ChangeAt Go.RowKit
set_option linter.unusedSimpArgs false
set_option linter.unusedVariables false
set_option maxRecDepth 100000

theorem erStar : "*" ++ "errors.errorString" = "*errors.errorString" := by decide
theorem erRow (u : TypeId) (h : Tryd.prog.typeName? 3 u = some "*errors.errorString") : u = 172 :=
  typeName_ptr_named (nm := "errors.errorString") (by rw [erStar]; kernel_rfl) (by kernel_rfl) (by decide) u (by rw [erStar]; exact h)
theorem erCells1 : Tryd.prog.cellsOf 198 = 1 := by kernel_rfl
theorem erCells2 : Tryd.prog.cellsOf 9 = 1 := by kernel_rfl
abbrev laid3 : List (String × DataW Unit) := [("loop.example/streamlayers/impl.errNone", Rows.laid_loop_example_streamlayers_impl_errNone), ("loop.example/streamlayers/impl.errFault", Rows.laid_loop_example_streamlayers_impl_errFault), ("loop.example/streamlayers/impl.errFull", Rows.laid_loop_example_streamlayers_impl_errFull)]
/-- What the condition gives: different errors, each in a block of its own. -/
theorem laid3_gives {W : World} (h : laidMetH Tryd.prog laid3 W) : ∃ a0 a1 a2 : Addr, (W.var? Tryd.prog "loop.example/streamlayers/impl.errNone" = some #[errAt a0] ∧ W.var? Tryd.prog "loop.example/streamlayers/impl.errFault" = some #[errAt a1] ∧ W.var? Tryd.prog "loop.example/streamlayers/impl.errFull" = some #[errAt a2]) ∧ (a0 ≠ a1 ∧ a0 ≠ a2 ∧ a1 ≠ a2) ∧ ((∃ c t, W.heap[a0.block]? = some (.cells c t (0, 0))) ∧ (∃ c t, W.heap[a1.block]? = some (.cells c t (0, 0))) ∧ (∃ c t, W.heap[a2.block]? = some (.cells c t (0, 0)))) := by
  have h' : laidMet Tryd.prog laid3 W := h
  obtain ⟨ps, ⟨g0', t0', cs0, f0, p0, q0, hg0', ht0', hv0, hd0, ⟨g1', t1', cs1, f1, p1, q1, hg1', ht1', hv1, hd1, ⟨g2', t2', cs2, f2, p2, q2, hg2', ht2', hv2, hd2, _, e2⟩, e1⟩, e0⟩, hnd, hrows⟩ := h'
  obtain rfl := Option.some.inj ((show Tryd.prog.globalNamed "loop.example/streamlayers/impl.errNone" = some 0 from by kernel_rfl).symm.trans hg0')
  obtain rfl := Option.some.inj ((show (Tryd.prog.globals[0]?).map (·.type) = some 82 from by kernel_rfl).symm.trans ht0')
  obtain rfl := Option.some.inj ((show Tryd.prog.globalNamed "loop.example/streamlayers/impl.errFault" = some 1 from by kernel_rfl).symm.trans hg1')
  obtain rfl := Option.some.inj ((show (Tryd.prog.globals[1]?).map (·.type) = some 82 from by kernel_rfl).symm.trans ht1')
  obtain rfl := Option.some.inj ((show Tryd.prog.globalNamed "loop.example/streamlayers/impl.errFull" = some 2 from by kernel_rfl).symm.trans hg2')
  obtain rfl := Option.some.inj ((show (Tryd.prog.globals[2]?).map (·.type) = some 82 from by kernel_rfl).symm.trans ht2')
  subst e2
  subst e1
  subst e0
  obtain ⟨l0⟩ := cs0
  obtain ⟨l1⟩ := cs1
  obtain ⟨l2⟩ := cs2
  have ok0 : ∀ u v, l0 = [.iface u v] → Value.okWide Tryd.prog W .any 0 u v := fun u v e => by
    subst e
    exact (hrows 0 0 (by simp [MemPlace.row])).2 u v (by simpa using World.var?_cell hg0' hv0 0)
  have ok1 : ∀ u v, l1 = [.iface u v] → Value.okWide Tryd.prog W .any 0 u v := fun u v e => by
    subst e
    exact (hrows 1 0 (by simp [MemPlace.row])).2 u v (by simpa using World.var?_cell hg1' hv1 0)
  have ok2 : ∀ u v, l2 = [.iface u v] → Value.okWide Tryd.prog W .any 0 u v := fun u v e => by
    subst e
    exact (hrows 2 0 (by simp [MemPlace.row])).2 u v (by simpa using World.var?_cell hg2' hv2 0)
  obtain ⟨a0, s0, rfl, hc0, hs0, hz0, rfl⟩ := errorString_of_trod Tryd.underlying82 erRow Tryd.underlying172 Tryd.underlying198 rfl rfl Tryd.underlying9 erCells1 erCells2 hd0 ok0
  obtain ⟨a1, s1, rfl, hc1, hs1, hz1, rfl⟩ := errorString_of_trod Tryd.underlying82 erRow Tryd.underlying172 Tryd.underlying198 rfl rfl Tryd.underlying9 erCells1 erCells2 hd1 ok1
  obtain ⟨a2, s2, rfl, hc2, hs2, hz2, rfl⟩ := errorString_of_trod Tryd.underlying82 erRow Tryd.underlying172 Tryd.underlying198 rfl rfl Tryd.underlying9 erCells1 erCells2 hd2 ok2
  obtain ⟨c0, t0, hb0⟩ := (hrows a0.block a0.off (by simp [MemPlace.row])).1
  obtain ⟨c1, t1, hb1⟩ := (hrows a1.block a1.off (by simp [MemPlace.row])).1
  obtain ⟨c2, t2, hb2⟩ := (hrows a2.block a2.off (by simp [MemPlace.row])).1
  refine ⟨a0, a1, a2, ⟨hv0, hv1, hv2⟩, ⟨?_, ?_, ?_⟩, ⟨_, _, hb0⟩, ⟨_, _, hb1⟩, ⟨_, _, hb2⟩⟩
  all_goals
    rintro rfl
    simp [MemPlace.row] at hnd
theorem door_met3 (os : Os) (args : Array Value) : laidMetH Tryd.prog laid3 ((World.doorLaid Tryd.prog 85 os).forCall (fun _ _ => 0) ⟨#[], args, []⟩).memory :=
  laidMetH_of_parts3 (fuel := 8) (laidMet_of_run' 8 (by kernel_rfl) (by kernel_rfl)) (by kernel_rfl) (by kernel_rfl)
abbrev laid4 : List (String × DataW Unit) := [("loop.example/streamlayers/impl.errNone", Rows.laid_loop_example_streamlayers_impl_errNone), ("loop.example/streamlayers/impl.errFault", Rows.laid_loop_example_streamlayers_impl_errFault), ("loop.example/streamlayers/impl.errFull", Rows.laid_loop_example_streamlayers_impl_errFull), ("loop.example/streamlayers/impl.errPlace", Rows.laid_loop_example_streamlayers_impl_errPlace)]
/-- What the condition gives: different errors, each in a block of its own. -/
theorem laid4_gives {W : World} (h : laidMetH Tryd.prog laid4 W) : ∃ a0 a1 a2 a3 : Addr, (W.var? Tryd.prog "loop.example/streamlayers/impl.errNone" = some #[errAt a0] ∧ W.var? Tryd.prog "loop.example/streamlayers/impl.errFault" = some #[errAt a1] ∧ W.var? Tryd.prog "loop.example/streamlayers/impl.errFull" = some #[errAt a2] ∧ W.var? Tryd.prog "loop.example/streamlayers/impl.errPlace" = some #[errAt a3]) ∧ (a0 ≠ a1 ∧ a0 ≠ a2 ∧ a0 ≠ a3 ∧ a1 ≠ a2 ∧ a1 ≠ a3 ∧ a2 ≠ a3) ∧ ((∃ c t, W.heap[a0.block]? = some (.cells c t (0, 0))) ∧ (∃ c t, W.heap[a1.block]? = some (.cells c t (0, 0))) ∧ (∃ c t, W.heap[a2.block]? = some (.cells c t (0, 0))) ∧ (∃ c t, W.heap[a3.block]? = some (.cells c t (0, 0)))) := by
  have h' : laidMet Tryd.prog laid4 W := h
  obtain ⟨ps, ⟨g0', t0', cs0, f0, p0, q0, hg0', ht0', hv0, hd0, ⟨g1', t1', cs1, f1, p1, q1, hg1', ht1', hv1, hd1, ⟨g2', t2', cs2, f2, p2, q2, hg2', ht2', hv2, hd2, ⟨g3', t3', cs3, f3, p3, q3, hg3', ht3', hv3, hd3, _, e3⟩, e2⟩, e1⟩, e0⟩, hnd, hrows⟩ := h'
  obtain rfl := Option.some.inj ((show Tryd.prog.globalNamed "loop.example/streamlayers/impl.errNone" = some 0 from by kernel_rfl).symm.trans hg0')
  obtain rfl := Option.some.inj ((show (Tryd.prog.globals[0]?).map (·.type) = some 82 from by kernel_rfl).symm.trans ht0')
  obtain rfl := Option.some.inj ((show Tryd.prog.globalNamed "loop.example/streamlayers/impl.errFault" = some 1 from by kernel_rfl).symm.trans hg1')
  obtain rfl := Option.some.inj ((show (Tryd.prog.globals[1]?).map (·.type) = some 82 from by kernel_rfl).symm.trans ht1')
  obtain rfl := Option.some.inj ((show Tryd.prog.globalNamed "loop.example/streamlayers/impl.errFull" = some 2 from by kernel_rfl).symm.trans hg2')
  obtain rfl := Option.some.inj ((show (Tryd.prog.globals[2]?).map (·.type) = some 82 from by kernel_rfl).symm.trans ht2')
  obtain rfl := Option.some.inj ((show Tryd.prog.globalNamed "loop.example/streamlayers/impl.errPlace" = some 3 from by kernel_rfl).symm.trans hg3')
  obtain rfl := Option.some.inj ((show (Tryd.prog.globals[3]?).map (·.type) = some 82 from by kernel_rfl).symm.trans ht3')
  subst e3
  subst e2
  subst e1
  subst e0
  obtain ⟨l0⟩ := cs0
  obtain ⟨l1⟩ := cs1
  obtain ⟨l2⟩ := cs2
  obtain ⟨l3⟩ := cs3
  have ok0 : ∀ u v, l0 = [.iface u v] → Value.okWide Tryd.prog W .any 0 u v := fun u v e => by
    subst e
    exact (hrows 0 0 (by simp [MemPlace.row])).2 u v (by simpa using World.var?_cell hg0' hv0 0)
  have ok1 : ∀ u v, l1 = [.iface u v] → Value.okWide Tryd.prog W .any 0 u v := fun u v e => by
    subst e
    exact (hrows 1 0 (by simp [MemPlace.row])).2 u v (by simpa using World.var?_cell hg1' hv1 0)
  have ok2 : ∀ u v, l2 = [.iface u v] → Value.okWide Tryd.prog W .any 0 u v := fun u v e => by
    subst e
    exact (hrows 2 0 (by simp [MemPlace.row])).2 u v (by simpa using World.var?_cell hg2' hv2 0)
  have ok3 : ∀ u v, l3 = [.iface u v] → Value.okWide Tryd.prog W .any 0 u v := fun u v e => by
    subst e
    exact (hrows 3 0 (by simp [MemPlace.row])).2 u v (by simpa using World.var?_cell hg3' hv3 0)
  obtain ⟨a0, s0, rfl, hc0, hs0, hz0, rfl⟩ := errorString_of_trod Tryd.underlying82 erRow Tryd.underlying172 Tryd.underlying198 rfl rfl Tryd.underlying9 erCells1 erCells2 hd0 ok0
  obtain ⟨a1, s1, rfl, hc1, hs1, hz1, rfl⟩ := errorString_of_trod Tryd.underlying82 erRow Tryd.underlying172 Tryd.underlying198 rfl rfl Tryd.underlying9 erCells1 erCells2 hd1 ok1
  obtain ⟨a2, s2, rfl, hc2, hs2, hz2, rfl⟩ := errorString_of_trod Tryd.underlying82 erRow Tryd.underlying172 Tryd.underlying198 rfl rfl Tryd.underlying9 erCells1 erCells2 hd2 ok2
  obtain ⟨a3, s3, rfl, hc3, hs3, hz3, rfl⟩ := errorString_of_trod Tryd.underlying82 erRow Tryd.underlying172 Tryd.underlying198 rfl rfl Tryd.underlying9 erCells1 erCells2 hd3 ok3
  obtain ⟨c0, t0, hb0⟩ := (hrows a0.block a0.off (by simp [MemPlace.row])).1
  obtain ⟨c1, t1, hb1⟩ := (hrows a1.block a1.off (by simp [MemPlace.row])).1
  obtain ⟨c2, t2, hb2⟩ := (hrows a2.block a2.off (by simp [MemPlace.row])).1
  obtain ⟨c3, t3, hb3⟩ := (hrows a3.block a3.off (by simp [MemPlace.row])).1
  refine ⟨a0, a1, a2, a3, ⟨hv0, hv1, hv2, hv3⟩, ⟨?_, ?_, ?_, ?_, ?_, ?_⟩, ⟨_, _, hb0⟩, ⟨_, _, hb1⟩, ⟨_, _, hb2⟩, ⟨_, _, hb3⟩⟩
  all_goals
    rintro rfl
    simp [MemPlace.row] at hnd
theorem door_met4 (os : Os) (args : Array Value) : laidMetH Tryd.prog laid4 ((World.doorLaid Tryd.prog 85 os).forCall (fun _ _ => 0) ⟨#[], args, []⟩).memory :=
  laidMetH_of_parts3 (fuel := 8) (laidMet_of_run' 8 (by kernel_rfl) (by kernel_rfl)) (by kernel_rfl) (by kernel_rfl)
theorem vars_read3 {H : Type} (enc : TypeId × Value → H) {X : World} {x0 x1 x2 : Value} (h0 : X.var? Tryd.prog "loop.example/streamlayers/impl.errNone" = some #[x0]) (h1 : X.var? Tryd.prog "loop.example/streamlayers/impl.errFault" = some #[x1]) (h2 : X.var? Tryd.prog "loop.example/streamlayers/impl.errFull" = some #[x2]) (i0 : IsIface x0) (i1 : IsIface x1) (i2 : IsIface x2) (sp : Nat → Bool) :
    DataW.TrodVars enc Tryd.prog X sp ["loop.example/streamlayers/impl.errNone", "loop.example/streamlayers/impl.errFault", "loop.example/streamlayers/impl.errFull"] [tok enc x0, tok enc x1, tok enc x2] [.cell 0 0, .cell 1 0, .cell 2 0] :=
  ⟨0, 82, #[x0], 1, [], [.cell 1 0, .cell 2 0], by kernel_rfl, by kernel_rfl, h0, trod_held Tryd.underlying82 i0 0, ⟨1, 82, #[x1], 1, [], [.cell 2 0], by kernel_rfl, by kernel_rfl, h1, trod_held Tryd.underlying82 i1 0, ⟨2, 82, #[x2], 1, [], [], by kernel_rfl, by kernel_rfl, h2, trod_held Tryd.underlying82 i2 0, rfl, rfl⟩, rfl⟩, rfl⟩
theorem vars_read4 {H : Type} (enc : TypeId × Value → H) {X : World} {x0 x1 x2 x3 : Value} (h0 : X.var? Tryd.prog "loop.example/streamlayers/impl.errPlace" = some #[x0]) (h1 : X.var? Tryd.prog "loop.example/streamlayers/impl.errNone" = some #[x1]) (h2 : X.var? Tryd.prog "loop.example/streamlayers/impl.errFault" = some #[x2]) (h3 : X.var? Tryd.prog "loop.example/streamlayers/impl.errFull" = some #[x3]) (i0 : IsIface x0) (i1 : IsIface x1) (i2 : IsIface x2) (i3 : IsIface x3) (sp : Nat → Bool) :
    DataW.TrodVars enc Tryd.prog X sp ["loop.example/streamlayers/impl.errPlace", "loop.example/streamlayers/impl.errNone", "loop.example/streamlayers/impl.errFault", "loop.example/streamlayers/impl.errFull"] [tok enc x0, tok enc x1, tok enc x2, tok enc x3] [.cell 3 0, .cell 0 0, .cell 1 0, .cell 2 0] :=
  ⟨3, 82, #[x0], 1, [], [.cell 0 0, .cell 1 0, .cell 2 0], by kernel_rfl, by kernel_rfl, h0, trod_held Tryd.underlying82 i0 0, ⟨0, 82, #[x1], 1, [], [.cell 1 0, .cell 2 0], by kernel_rfl, by kernel_rfl, h1, trod_held Tryd.underlying82 i1 0, ⟨1, 82, #[x2], 1, [], [.cell 2 0], by kernel_rfl, by kernel_rfl, h2, trod_held Tryd.underlying82 i2 0, ⟨2, 82, #[x3], 1, [], [], by kernel_rfl, by kernel_rfl, h3, trod_held Tryd.underlying82 i3 0, rfl, rfl⟩, rfl⟩, rfl⟩, rfl⟩
theorem errs_of {W : World} {a0 a1 a2 : Addr} (h0 : W.var? Tryd.prog "loop.example/streamlayers/impl.errNone" = some #[errAt a0]) (h1 : W.var? Tryd.prog "loop.example/streamlayers/impl.errFault" = some #[errAt a1]) (h2 : W.var? Tryd.prog "loop.example/streamlayers/impl.errFull" = some #[errAt a2]) (n01 : a0 ≠ a1) (n02 : a0 ≠ a2) (n12 : a1 ≠ a2)
    (r0 : ∃ c t, W.heap[a0.block]? = some (.cells c t (0, 0))) (r1 : ∃ c t, W.heap[a1.block]? = some (.cells c t (0, 0))) (r2 : ∃ c t, W.heap[a2.block]? = some (.cells c t (0, 0))) : Errs W W.heap.size a0 a1 a2 := by
  have lt : ∀ {a : Addr}, (∃ c t, W.heap[a.block]? = some (.cells c t (0, 0))) → a.block < W.heap.size := fun h => by
    obtain ⟨c, t, h⟩ := h
    exact (Array.getElem?_eq_some_iff.1 h).1
  have g0 : W.cell? ⟨0, 0, none⟩ = some (errAt a0) := by simpa using World.var?_cell (P := Tryd.prog) (by kernel_rfl) h0 0
  have g1 : W.cell? ⟨1, 0, none⟩ = some (errAt a1) := by simpa using World.var?_cell (P := Tryd.prog) (by kernel_rfl) h1 0
  have g2 : W.cell? ⟨2, 0, none⟩ = some (errAt a2) := by simpa using World.var?_cell (P := Tryd.prog) (by kernel_rfl) h2 0
  exact ⟨⟨⟨World.block_lt_of_cell? _ _ g0, World.block_lt_of_cell? _ _ g1, World.block_lt_of_cell? _ _ g2⟩, lt r0, lt r1, lt r2⟩, ⟨g0, g1, g2⟩, ⟨n01, n02, n12⟩, r0, r1, r2⟩
/-- A law's call gave true and left all that was there as it was, its variables too. -/
theorem law_postV {H : Type} {enc : TypeId × Value → H} {P : Program} {f : Func} {s : ChangeSpec} {W W' : World} {args : Array Value} {ds gs : List (DataW H)} {before qv : List MemPlace} {tb : TypeId}
    (hl : laidOutB P = true) (hT : ∀ t ∈ f.params.toList, P.readableRec t = true ∧ t < P.types.size)
    (hW : DataW.Whole enc P f.params.toList s.vars false W args.toList ds gs before) (hv : ∀ sp : Nat → Bool, DataW.TrodVars enc P W' sp s.vars gs qv)
    (hs : s.fn H (ds ++ gs) = { results := [.lit (.bool true)], args := ds, vars := gs }) (hr : f.resultTypes = #[tb]) (htb : P.underlying tb = some .bool)
    (hb : Below W.heap.size W W') : s.post enc P f false true false false W args (.bool true) W' := by
  have hlt : ∀ p ∈ before, p.block < W.heap.size := fun p hp => hW.lt p hp
  have hW' := hW
  obtain ⟨p, q, hA, hV, rfl, _, _⟩ := hW'
  refine ⟨ds, gs, p ++ q, [], p, qv, hW, ?_, ?_, ?_, hb.frame _, fun h => by cases h⟩
  · rw [hs, hr]
    exact trodAll_mk1 (shut_bool htb true)
  · rw [hs]
    exact trod_at hl hb _ _ _ _ hT (fun x hx => hlt x (List.mem_append_left _ hx)) hA
  · rw [hs]
    exact hv _
end Go.Proofs.YtdiebkaedjlckaaDoor
