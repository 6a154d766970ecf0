/- What every law's last step wants of the program's own tables; a device among a law's arguments. -/
import Derived.Test.YtdiebkaedjlckaaL3
import Derived.Deep.RegionHeld3
namespace Go.Proofs.Ytdiebkaedjlckaa
open Go.ChangeShapes Go.WideShapes Go.ChangeAt Go.RowKit
set_option maxRecDepth 10000
set_option linter.unusedSimpArgs false
set_option linter.unusedVariables false

theorem own : ownKnob Try.prog.godebug = none := by kernel_rfl
theorem laidOut : laidOutB Try.prog = true := by kernel_rfl
theorem cellsInt : Try.prog.cellsOf 3 = 1 := by kernel_rfl
theorem tys_of {ts : Array TypeId} (h : ts.toList.all (fun t => Try.prog.readableRec t && decide (t < Try.prog.types.size)) = true) : ∀ t ∈ ts.toList, Try.prog.readableRec t = true ∧ t < Try.prog.types.size := by
  intro t ht
  have := List.all_eq_true.1 h t ht
  simpa using this
theorem arg_intv {H : Type} {enc : TypeId × Value → H} {W : World} {base : Nat} {v : Value} {d : DataW H} {p0 : List MemPlace} (hval : Value.okWide Try.prog W .any base 3 v) (h : DataW.Trod enc Try.prog W 0 (fun _ => true) true 3 v d p0) :
    ∃ n, v = .int .i64 n ∧ okInt n := by
  obtain ⟨n, rfl, _, _, hw⟩ := open_int Try.underlying3 hval h
  exact ⟨n, rfl, bounds_i64 hw⟩
theorem arg_intsv {H : Type} {enc : TypeId × Value → H} {W : World} {base : Nat} {v : Value} {d : DataW H} {p0 : List MemPlace} (hval : Value.okWide Try.prog W .any base 23 v) (h : DataW.Trod enc Try.prog W 0 (fun _ => true) true 23 v d p0)
    (hlt : ∀ p ∈ p0, p.block < W.heap.size) (hfz : ∀ b off, MemPlace.cell b off ∈ p0 → W.frozen? ⟨b, off, none⟩ = false) :
    ∃ A n c D, v = .slice A n c ∧ n ≤ c ∧ Ints W 0 W.heap.size A n D := by
  obtain ⟨a0, len, cap, rfl⟩ := okWide_slice Try.underlying23 hval
  obtain ⟨fuel, hf⟩ := h
  obtain ⟨A, n, c, D, e, h1, _, hD⟩ := arg_ints (v := .slice a0 len cap) Try.underlying23 Try.underlying3 cellsInt (by simpa [Value.cells] using hf) hlt hfz
  exact ⟨A, n, c, D, e, h1, hD⟩


end Go.Proofs.Ytdiebkaedjlckaa
