/- Contracts of plain files, the program's. -/
import Derived.Test.YtphkkalkajleiaaDoorC1k
import Derived.Test.YtphkkalkajleiaaDoorC1h
import Derived.Deep.RegionHeld3
import Derived.Deep.DeepCutAuto
namespace Go.Proofs.YtphkkalkajleiaaDoor
open Go.ChangeShapes Go.WideShapes Go.ChangeAt Go.RowKit
set_option linter.unusedSimpArgs false
set_option linter.unusedVariables false
set_option maxRecDepth 10000

/-- A plain file's data. -/
structure Pv where
  d : List Int
  p : Int
def Pv.zero : Pv := ⟨[], 0⟩
def validP (D : List Int) (p : Int) : Bool := bytesB D && inB p 0 60
theorem validP_D (D : List Int) (p : Int) : validD D p [] 0 = validP D p := by simp [validD, validP, allB, inB]
theorem validP_iff {D : List Int} {p : Int} : validP D p = true ↔ bytesB D = true ∧ 0 ≤ p ∧ p ≤ 60 := by simp [validP, inB]
def prL (D : List Int) (p z : Int) : List Int := (D.drop p.toNat).take z.toNat
/-- What PlainRead gives. -/
def prOut (D : List Int) (p z : Int) : Pv × List Int := if validP D p && inB z 0 60 then (⟨D, p + ((prL D p z).length : Int)⟩, prL D p z) else (.zero, [])
theorem prOut_le (D : List Int) (p z : Int) : (prOut D p z).1.d.length ≤ 60 ∧ (prOut D p z).2.length ≤ 60 := by
  unfold prOut
  split
  · have h := bytesB_le (validP_iff.1 (Bool.and_eq_true_iff.1 ‹_›).1).1
    refine ⟨h, ?_⟩
    show (prL D p z).length ≤ 60
    unfold prL
    rw [List.length_take, List.length_drop]
    omega
  · exact ⟨by decide, by decide⟩
/-- What PlainWrite gives. -/
def pwOut (D : List Int) (p : Int) (L : List Int) : Pv × Int := if validP D p && bytesB L then (⟨wrL D p.toNat (L.take (waM p.toNat L.length)), p + (waM p.toNat L.length : Nat)⟩, (waM p.toNat L.length : Nat)) else (.zero, 0)
theorem pwOut_le0 (D : List Int) (p : Int) (L : List Int) : (pwOut D p L).1.d.length ≤ 60 := by
  unfold pwOut
  split
  · obtain ⟨h, hp⟩ := validP_iff.1 (Bool.and_eq_true_iff.1 ‹_›).1
    have h60 := bytesB_le h
    show (wrL D p.toNat (L.take (waM p.toNat L.length))).length ≤ 60
    by_cases h0 : L.take (waM p.toNat L.length) = []
    · rw [h0]; simpa [wrL] using h60
    · rw [wrL_len (List.length_pos_iff.2 h0), List.length_take]
      unfold waM
      omega
  · decide
theorem pwOut_le (D : List Int) (p : Int) (L : List Int) : (pwOut D p L).1.d.length ≤ 60 ∧ True := ⟨pwOut_le0 D p L, trivial⟩
/-- What PlainSeek gives. -/
def psOut (D : List Int) (p off wh : Int) : Pv × Bool := (⟨(seekOut D p [] 0 off wh).1.d, (seekOut D p [] 0 off wh).1.p⟩, (seekOut D p [] 0 off wh).2)
theorem psOut_le (D : List Int) (p off wh : Int) : (psOut D p off wh).1.d.length ≤ 60 ∧ True := ⟨(seekOut_le D p [] 0 off wh).1, trivial⟩

/-- A plain file and a list in new memory. -/
def PostPL (o : Pv × List Int) (w : World) (e : Ending) (w' : World) : Prop :=
  ∃ A n c X l k, e = .returned (.tuple #[.agg #[.slice (A) n c, .int .i64 (o.1.p)], .slice X l k]) ∧ (n ≤ c ∧ l ≤ k) ∧ Below w.heap.size w w' ∧ Ints w' w.heap.size w'.heap.size A n o.1.d ∧ Ints w' w.heap.size w'.heap.size X l o.2 ∧ Apart X l A n ∧ okInt o.1.p
def PostPI (o : Pv × Int) (w : World) (e : Ending) (w' : World) : Prop :=
  ∃ A n c, e = .returned (.tuple #[.agg #[.slice (A) n c, .int .i64 (o.1.p)], .int .i64 o.2]) ∧ n ≤ c ∧ Below w.heap.size w w' ∧ Ints w' w.heap.size w'.heap.size A n o.1.d ∧ okInt o.1.p
def PostPB (o : Pv × Bool) (w : World) (e : Ending) (w' : World) : Prop :=
  ∃ A n c, e = .returned (.tuple #[.agg #[.slice (A) n c, .int .i64 (o.1.p)], .bool o.2]) ∧ n ≤ c ∧ Below w.heap.size w w' ∧ Ints w' w.heap.size w'.heap.size A n o.1.d ∧ okInt o.1.p
theorem ok0 : okInt 0 := by unfold okInt; omega

end Go.Proofs.YtphkkalkajleiaaDoor
