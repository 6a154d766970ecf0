/- Contracts of CutDevice, impl's and the model's. -/
import Derived.Test.YtdiebkaedjlckaaDoorC1h
import Derived.Deep.DeepCutAuto
namespace Go.Proofs.YtdiebkaedjlckaaDoor
open Go.ChangeShapes Go.WideShapes Go.ChangeAt Go.RowKit
set_option linter.unusedSimpArgs false
set_option linter.unusedVariables false

/-- Bytes with a length. -/
def cutL (D : List Int) (m : Nat) : List Int := D.take m ++ List.replicate (m - D.length) 0
theorem cutL_len (D : List Int) (m : Nat) : (cutL D m).length = m := by simp [cutL]; omega
def cutOut (D : List Int) (p : Int) (S : List Int) (q z : Int) : Dv × Bool :=
  if validD D p S q && inB z 0 60 then (⟨cutL D z.toNat, p, S, q⟩, true) else (.zero, false)
theorem cutOut_le (D : List Int) (p : Int) (S : List Int) (q z : Int) : (cutOut D p S q z).1.d.length ≤ 60 ∧ (cutOut D p S q z).1.s.length ≤ 60 := by
  unfold cutOut
  split
  · have h := ‹(validD D p S q && inB z 0 60) = true›
    obtain ⟨hv, hz⟩ := Bool.and_eq_true_iff.1 h
    obtain ⟨_, hs, _⟩ := validD_iff.1 hv
    obtain ⟨h0, h1⟩ := inB_iff.1 hz
    exact ⟨by show (cutL D z.toNat).length ≤ 60; rw [cutL_len]; omega, by show S.length ≤ 60; omega⟩
  · exact ⟨by decide, by decide⟩
theorem cutL_ok {D : List Int} {m : Nat} (h : ∀ x ∈ D, okInt x) : ∀ x ∈ cutL D m, okInt x := by
  intro x hx
  unfold cutL at hx
  rcases List.mem_append.1 hx with h1 | h1
  · exact h x (List.mem_of_mem_take h1)
  · rw [List.eq_of_mem_replicate h1]; unfold okInt; omega
theorem splice_cut (D : List Int) (m : Nat) : splice (madeCells #[.int .i64 0] m).toList 0 ((D.take m).map (Value.int .i64)) = (cutL D m).map (Value.int .i64) := by
  have h1 : (madeCells #[Value.int .i64 0] m).toList = List.replicate m (Value.int .i64 0) := by
    apply List.ext_getElem?
    intro i
    rw [Array.getElem?_toList, List.getElem?_replicate]
    by_cases hi : i < m
    · simp [madeCells, hi, Nat.mod_one]
    · rw [if_neg hi, Array.getElem?_eq_none (by rw [size_madeCells]; omega)]
  rw [h1]
  unfold splice cutL
  simp only [List.take_zero, List.nil_append, Nat.zero_add, List.length_map, List.length_take, List.map_append, List.map_replicate, List.drop_replicate]
  rw [show m - min m D.length = m - D.length from by omega]

theorem Ints.cellsTake {w : World} {lo hi n m : Nat} {A : Option Addr} {xs : List Int} (h : Ints w lo hi A n xs) (hp : 0 < xs.length) :
    ∃ ad : Addr, A = some ad ∧ ∀ (j : Nat) (v : Value), (List.take m (List.map (Value.int .i64) xs))[j]? = some v → w.cell? (ad.add j) = some v := by
  obtain ⟨b, o, e, _, _, hc⟩ := h.2.2.2 (by have := h.1; omega)
  refine ⟨_, e, fun j v hv => ?_⟩
  rw [List.getElem?_take] at hv
  split at hv
  · rw [List.getElem?_map] at hv
    obtain ⟨x, hx, rfl⟩ := Option.map_eq_some_iff.1 hv
    rw [add_plain]
    exact (hc j x hx).1
  · cases hv


end Go.Proofs.YtdiebkaedjlckaaDoor
