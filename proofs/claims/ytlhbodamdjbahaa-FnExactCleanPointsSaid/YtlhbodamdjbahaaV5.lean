/- impl's decoded: a loop over the iterator that collects, and may stop. -/
import Derived.Test.YtlhbodamdjbahaaV4
namespace Go.Proofs.Ytlhbodamdjbahaa
open Go.ChangeShapes Go.WideShapes Go.ChangeAt Go.RowKit Go.Shelf
set_option linter.unusedSimpArgs false
set_option linter.unusedVariables false
set_option maxRecDepth 100000
attribute [local go_sem] Oper.semAt_some

def ptOf (x : Pt) : Int := x.1.2
theorem map_pt {ys : List Pt} {xs : List Int} (h : ys.map (·.1) = seqP 0 xs) : ys.map ptOf = rawP xs := by
  rw [← seqP_raw xs 0, ← h, List.map_map]
  rfl
/-- What was made of the points so far, none of which stops the way. -/
def madeL (m : Int) (l : List Int) : List Int := l.flatMap (kp m)
def Runs (m : Int) (l : List Int) : Prop := ∀ p ∈ l, stp m p = false
theorem madeL_snoc {m p : Int} {l : List Int} : madeL m (l ++ [p]) = madeL m l ++ kp m p := by simp [madeL]
theorem Runs.more {m p : Int} {l : List Int} (h : Runs m l) (hp : stp m p = false) : Runs m (l ++ [p]) := fun q hq => (List.mem_append.1 hq).elim (h q) (fun e => by
  have e2 : q = p := by simpa using e
  subst e2; exact hp)
theorem decP_runs {m : Int} : ∀ {l : List Int}, Runs m l → ∀ r, decP m (l ++ r) = (madeL m l ++ (decP m r).1, (decP m r).2)
  | [], _, r => by simp [madeL]
  | p :: l, h, r => by
    have h1 := h p List.mem_cons_self
    have h2 := decP_runs (l := l) (fun q hq => h q (List.mem_cons_of_mem _ hq)) r
    simp only [List.cons_append, decP, h1, Bool.false_eq_true, if_false, h2]
    simp [madeL]
theorem decB_all {m : Int} {ys : List Pt} {xs : List Int} (h : ys.map (·.1) = seqP 0 xs) (hr : Runs m (ys.map ptOf)) : decB m xs = (madeL m (ys.map ptOf), true) := by
  unfold decB
  rw [← map_pt h]
  have := decP_runs hr []
  simp only [List.append_nil, decP] at this
  exact this
/-- The last point stops the way. -/
def Stops (m : Int) (l : List Int) (k : List Int) : Prop := ∃ ini q, l = ini ++ [q] ∧ Runs m ini ∧ stp m q = true ∧ k = madeL m ini
theorem decB_stop {m : Int} {pre : List Pt} {xs k : List Int} (h : pre.map (·.1) <+: seqP 0 xs) (hs : Stops m (pre.map ptOf) k) : decB m xs = (k, false) := by
  obtain ⟨t, ht⟩ := h
  obtain ⟨ini, q, e, hr, hq, rfl⟩ := hs
  unfold decB
  have h1 : rawP xs = ini ++ (q :: t.map (·.2)) := by
    rw [← seqP_raw xs 0, ← ht, List.map_append, List.map_map]
    have h2 : pre.map ((fun x => x.2) ∘ fun x => x.1) = ini ++ [q] := by rw [← e]; rfl
    rw [h2]
    simp
  rw [h1, decP_runs hr]
  simp [decP, hq]
theorem madeL_len (m : Int) (l : List Int) : (madeL m l).length ≤ l.length := by
  induction l with
  | nil => simp [madeL]
  | cons p l ih =>
    have := kp_len m p
    have e : madeL m (p :: l) = kp m p ++ madeL m l := by simp [madeL]
    rw [e, List.length_append, List.length_cons]
    omega
theorem kp_keep {m p : Int} (h : ¬ 2047 < p ∨ m = 3) : kp m p = [p] ∧ stp m p = false := by
  unfold kp stp
  rcases h with h | h
  · rw [if_neg h]; simp; omega
  · subst h
    refine ⟨?_, by simp⟩
    split <;> simp
theorem kp_mark {p : Int} (h : 2047 < p) : kp 2 p = [2047] ∧ stp 2 p = false := by simp [kp, stp, h]
theorem kp_stop {p : Int} (h : 2047 < p) : stp 0 p = true := by simp [stp, h]
theorem kp_drop {m p : Int} (h : 2047 < p) (h3 : m ≠ 3) (h2 : m ≠ 2) (h0 : m ≠ 0) : kp m p = [] ∧ stp m p = false := by simp [kp, stp, h, h3, h2, h0]
/-- Points in new memory, and whether that is possible. -/
def ListBPost (xs : List Int) (ok : Bool) (w : World) (e : Ending) (w' : World) : Prop :=
  ∃ A n c, e = .returned (.tuple #[.slice A n c, .bool ok]) ∧ n ≤ c ∧ Below w.heap.size w w' ∧ Ints w' w.heap.size w'.heap.size A n xs
theorem listBPost_own {w w' : World} {v : Value} {n : Nat} {xs : List Int} {ok : Bool} (hb : Below w.heap.size w w') (h : OwnI w' w.heap.size v n xs) (hok : ∀ x ∈ xs, okInt x) : ListBPost xs ok w (.returned (.tuple #[v, .bool ok])) w' := by
  obtain ⟨A, c, rfl, hc, hI⟩ := h.ints hok
  exact ⟨A, n, c, rfl, hc, hb, hI⟩

/-- A box of other things stays over an append, and a store into another box. -/
theorem boxOver {W w1 : World} {n₀ Bs B' : Nat} {t e : TypeId} {u v : Value} {k : Nat} {xs : List Value} {tmp : Obj} (hb : Boxed W Bs t u) (hte : t ≠ e) (hrow : W.ownsRow n₀ e 1 v k xs) (hgrow : (W.alloc tmp).grownBy w1 v.ownBlock) (hne : Bs ≠ B') (v' : Value) : Boxed (w1.setCell ⟨B', 0, none⟩ v') Bs t u :=
  ((hb.alloc _).kept hgrow (hb.not_row hte hrow)).other hne _
/-- So does a box below the row's own blocks, whatever it holds. -/
theorem boxSame {W w1 : World} {n₀ Bs B' : Nat} {t e : TypeId} {u v : Value} {k : Nat} {xs : List Value} {tmp : Obj} (hb : Boxed W Bs t u) (hrow : W.ownsRow n₀ e 1 v k xs) (hgrow : (W.alloc tmp).grownBy w1 v.ownBlock) (hx : Bs < n₀) (hne : Bs ≠ B') (v' : Value) : Boxed (w1.setCell ⟨B', 0, none⟩ v') Bs t u :=
  ((hb.alloc _).kept hgrow (fun e => by have := World.ownsRow.lt hrow Bs e.symm; omega)).other hne _
theorem listBPost_at {w w' : World} {v : Value} {n b : Nat} {xs : List Int} {ok : Bool} (hb : Below w.heap.size w w') (h : OwnI w' b v n xs) (hB : w.heap.size ≤ b) (hok : ∀ x ∈ xs, okInt x) : ListBPost xs ok w (.returned (.tuple #[v, .bool ok])) w' := by
  obtain ⟨A, c, rfl, hc, hI⟩ := h.ints hok
  exact ⟨A, n, c, rfl, hc, hb, hI.more hB (Nat.le_refl _)⟩
end Go.Proofs.Ytlhbodamdjbahaa
