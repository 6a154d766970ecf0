/- What every law's last step wants of the program's own tables; a device among a law's arguments. -/
import Derived.Test.YtdiebkaedjlckaaDoorL3
import Derived.Deep.RegionHeld3
namespace Go.Proofs.YtdiebkaedjlckaaDoor
open Go.ChangeShapes Go.WideShapes Go.ChangeAt Go.RowKit
set_option maxRecDepth 10000
set_option linter.unusedSimpArgs false
set_option linter.unusedVariables false

theorem own : ownKnob Tryd.prog.godebug = none := by kernel_rfl
theorem laidOut : laidOutB Tryd.prog = true := by kernel_rfl
theorem cellsInt : Tryd.prog.cellsOf 3 = 1 := by kernel_rfl
theorem tys_of {ts : Array TypeId} (h : ts.toList.all (fun t => Tryd.prog.readableRec t && decide (t < Tryd.prog.types.size)) = true) : ∀ t ∈ ts.toList, Tryd.prog.readableRec t = true ∧ t < Tryd.prog.types.size := by
  intro t ht
  have := List.all_eq_true.1 h t ht
  simpa using this
theorem arg_intv {H : Type} {enc : TypeId × Value → H} {W : World} {base : Nat} {v : Value} {d : DataW H} {p0 : List MemPlace} (hval : Value.okWide Tryd.prog W .any base 3 v) (h : DataW.Trod enc Tryd.prog W 0 (fun _ => true) true 3 v d p0) :
    ∃ n, v = .int .i64 n ∧ okInt n := by
  obtain ⟨n, rfl, _, _, hw⟩ := open_int Tryd.underlying3 hval h
  exact ⟨n, rfl, bounds_i64 hw⟩
theorem arg_intsv {H : Type} {enc : TypeId × Value → H} {W : World} {base : Nat} {v : Value} {d : DataW H} {p0 : List MemPlace} (hval : Value.okWide Tryd.prog W .any base 22 v) (h : DataW.Trod enc Tryd.prog W 0 (fun _ => true) true 22 v d p0)
    (hlt : ∀ p ∈ p0, p.block < W.heap.size) (hfz : ∀ b off, MemPlace.cell b off ∈ p0 → W.frozen? ⟨b, off, none⟩ = false) :
    ∃ A n c D, v = .slice A n c ∧ n ≤ c ∧ Ints W 0 W.heap.size A n D := by
  obtain ⟨a0, len, cap, rfl⟩ := okWide_slice Tryd.underlying22 hval
  obtain ⟨fuel, hf⟩ := h
  obtain ⟨A, n, c, D, e, h1, _, hD⟩ := arg_ints (v := .slice a0 len cap) Tryd.underlying22 Tryd.underlying3 cellsInt (by simpa [Value.cells] using hf) hlt hfz
  exact ⟨A, n, c, D, e, h1, hD⟩

/-- A device among a law's arguments. -/
theorem arg_device {H : Type} {enc : TypeId × Value → H} {W : World} {base : Nat} {v : Value} {d : DataW H} {p0 : List MemPlace} (hval : Value.okWide Tryd.prog W .any base 24 v) (h : DataW.Trod enc Tryd.prog W 0 (fun _ => true) true 24 v d p0)
    (hlt : ∀ p ∈ p0, p.block < W.heap.size) (hfz : ∀ b off, MemPlace.cell b off ∈ p0 → W.frozen? ⟨b, off, none⟩ = false) :
    ∃ A n c p A' n' c' q D S, v = .agg #[.slice (A) n c, .int .i64 (p), .slice (A') n' c', .int .i64 (q)] ∧ Ints W 0 W.heap.size A n D ∧ Ints W 0 W.heap.size A' n' S ∧ okInt p ∧ okInt q := by
  obtain ⟨v0, v1, v2, v3, y0, y1, y2, y3, n, rfl, _, rfl, h0, h1, h2, h3⟩ := Go.Joins.open_agg4 (P := Tryd.prog) Tryd.underlying24 (by kernel_rfl) (by kernel_rfl) hval h
  obtain ⟨A, n, c, D, rfl, _, _, hD⟩ := arg_ints Tryd.underlying22 Tryd.underlying3 cellsInt h0 (fun p hp => hlt p (by simp [hp])) (fun b o hp => hfz b o (by simp [hp]))
  obtain ⟨p, rfl, hp⟩ := arg_int Tryd.underlying3 h1
  obtain ⟨A', n', c', S, rfl, _, _, hS⟩ := arg_ints Tryd.underlying22 Tryd.underlying3 cellsInt h2 (fun p hp => hlt p (by simp [hp])) (fun b o hp => hfz b o (by simp [hp]))
  obtain ⟨q, rfl, hq⟩ := arg_int Tryd.underlying3 h3
  exact ⟨A, n, c, p, A', n', c', q, D, S, rfl, hD, hS, hp, hq⟩

end Go.Proofs.YtdiebkaedjlckaaDoor
