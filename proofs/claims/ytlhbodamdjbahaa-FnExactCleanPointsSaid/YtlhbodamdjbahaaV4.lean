/- impl's PlacesOf and BadAt: loops over the iterator. -/
import Derived.Test.YtlhbodamdjbahaaV3
import Derived.Test.YtlhbodamdjbahaaN2
namespace Go.Proofs.Ytlhbodamdjbahaa
open Go.ChangeShapes Go.WideShapes Go.ChangeAt Go.RowKit Go.Shelf
set_option linter.unusedSimpArgs false
set_option linter.unusedVariables false
set_option maxRecDepth 100000
attribute [local go_sem] Oper.semAt_some

/-- Where points begin. -/
def plL (xs : List Int) : List Int := (seqP 0 xs).map fun x => (x.1 : Int)
def plOut (xs : List Int) : List Int := if bytesB xs then plL xs else []
theorem seqP_idx : ∀ (ys : List Int) (i : Nat), ∀ x ∈ seqP i ys, i ≤ x.1 ∧ x.1 < i + ys.length
  | [], _, x, hx => by simp [seqP] at hx
  | [b], i, x, hx => by simp [seqP] at hx; subst hx; simp
  | b :: c :: r, i, x, hx => by
    simp only [seqP] at hx
    split at hx
    · rcases List.mem_cons.1 hx with rfl | hx
      · simp
      · have := seqP_idx r (i + 2) x hx; simp only [List.length_cons]; omega
    · rcases List.mem_cons.1 hx with rfl | hx
      · simp
      · have := seqP_idx (c :: r) (i + 1) x hx; simp only [List.length_cons] at *; omega
theorem plL_ok {xs : List Int} (h : xs.length ≤ 60) : ∀ x ∈ plL xs, okInt x := by
  intro x hx
  obtain ⟨p, hp, rfl⟩ := List.mem_map.1 hx
  have := seqP_idx xs 0 p hp
  unfold okInt
  omega
def idxOf (x : Pt) : Int := (x.1.1 : Int)
theorem map_idx {ys : List Pt} {xs : List Int} (h : ys.map (·.1) = seqP 0 xs) : ys.map idxOf = plL xs := by
  unfold plL
  rw [← h, List.map_map]
  rfl


/-- The first wrong byte. -/
def bdL (xs : List Int) : Int := match (seqP 0 xs).find? (fun x => decide (2047 < x.2)) with
  | some x => (x.1 : Int)
  | none => -1
def bdOut (xs : List Int) : Int := if bytesB xs then bdL xs else -2
/-- Nothing of it is kept; the last one is the first that is. -/
def LowAll (pre : List Pt) : Prop := ∀ p ∈ pre, ¬ 2047 < p.1.2
def Hit (pre : List Pt) (k : Int) : Prop := ∃ ini q, pre = ini ++ [q] ∧ LowAll ini ∧ 2047 < q.1.2 ∧ k = (q.1.1 : Int)
theorem LowAll.more {pre : List Pt} {x : Pt} (h : LowAll pre) (hx : ¬ 2047 < x.1.2) : LowAll (pre ++ [x]) := fun p hp => (List.mem_append.1 hp).elim (h p) (fun e => by
  have e2 : p = x := by simpa using e
  subst e2; exact hx)
theorem bdL_none {xs : List Int} {ys : List Pt} (h : ys.map (·.1) = seqP 0 xs) (hn : LowAll ys) : bdL xs = -1 := by
  have : (seqP 0 xs).find? (fun x => decide (2047 < x.2)) = none := by
    rw [List.find?_eq_none]
    intro x hx
    rw [← h] at hx
    obtain ⟨p, hp, rfl⟩ := List.mem_map.1 hx
    simpa using hn p hp
  unfold bdL
  rw [this]
theorem bdL_some {xs : List Int} {pre : List Pt} {k : Int} (h : pre.map (·.1) <+: seqP 0 xs) (hh : Hit pre k) : bdL xs = k := by
  obtain ⟨ini, q, rfl, hn, hq, rfl⟩ := hh
  obtain ⟨t, ht⟩ := h
  have : (seqP 0 xs).find? (fun x => decide (2047 < x.2)) = some q.1 := by
    rw [← ht, List.map_append, List.append_assoc, List.find?_append]
    have h1 : (ini.map (·.1)).find? (fun x => decide (2047 < x.2)) = none := by
      rw [List.find?_eq_none]
      intro x hx
      obtain ⟨p, hp, rfl⟩ := List.mem_map.1 hx
      simpa using hn p hp
    rw [h1]
    simp [hq]
  unfold bdL
  rw [this]

end Go.Proofs.Ytlhbodamdjbahaa
