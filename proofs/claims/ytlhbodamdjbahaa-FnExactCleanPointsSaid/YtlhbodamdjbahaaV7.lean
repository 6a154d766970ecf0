/- impl's DecodeBytes, CountPoints, EncodePoints. -/
import Derived.Test.YtlhbodamdjbahaaV6
namespace Go.Proofs.Ytlhbodamdjbahaa
open Go.ChangeShapes Go.WideShapes Go.ChangeAt Go.RowKit
set_option linter.unusedSimpArgs false
set_option linter.unusedVariables false
set_option maxRecDepth 100000

def cpOut (xs : List Int) : Int := if bytesB xs then (((decB 2 xs).1.length : Nat) : Int) else -1
theorem decP_true {m : Int} (h : ¬ m = 0) : ∀ l : List Int, (decP m l).2 = true
  | [] => rfl
  | p :: r => by
    have h1 : stp m p = false := by simp [stp, h]
    simp only [decP, h1, Bool.false_eq_true, if_false]
    exact decP_true h r
theorem decB_true {m : Int} (h : ¬ m = 0) (xs : List Int) : (decB m xs).2 = true := decP_true h _
/-- The bytes of a point, and of points. -/
def enc1 (p : Int) : List Int := if 2047 < p then [p - 3000] else if p < 128 then [p] else [192 + p / 64, 128 + p % 64]
def encL (xs : List Int) : List Int := xs.flatMap enc1
def encOut (xs : List Int) : List Int := if ptsB xs then encL xs else []
theorem enc1_len (p : Int) : (enc1 p).length ≤ 2 := by
  unfold enc1
  split
  · simp
  · split <;> simp
theorem encL_len (xs : List Int) : (encL xs).length ≤ 2 * xs.length := by
  induction xs with
  | nil => simp [encL]
  | cons x xs ih =>
    have e : encL (x :: xs) = enc1 x ++ encL xs := by simp [encL]
    rw [e, List.length_append, List.length_cons]
    have := enc1_len x
    omega
theorem encL_snoc {xs : List Int} {k : Nat} {x : Int} (h : xs[k]? = some x) : encL (xs.take (k + 1)) = encL (xs.take k) ++ enc1 x := by
  rw [take_snoc h]; simp [encL]
theorem ptB_in {p : Int} (h : ptB p = true) : 0 ≤ p ∧ p ≤ 3255 ∧ (2047 < p → 3128 ≤ p) := by
  unfold ptB at h
  rw [Bool.or_eq_true, inB_iff, inB_iff] at h
  omega
theorem enc1_byte {p : Int} (h : ptB p = true) : ∀ x ∈ enc1 p, 0 ≤ x ∧ x ≤ 255 := by
  have hp := ptB_in h
  intro x hx
  unfold enc1 at hx
  split at hx
  · simp at hx; omega
  · split at hx
    · simp at hx; omega
    · simp at hx
      rcases hx with rfl | rfl <;> omega
theorem encL_ok {xs : List Int} (h : xs.all ptB = true) : ∀ x ∈ encL xs, okInt x := by
  rw [List.all_eq_true] at h
  intro x hx
  obtain ⟨p, hp, hx⟩ := List.mem_flatMap.1 hx
  have := enc1_byte (h p hp) x hx
  unfold okInt; omega
theorem lit2 (w : World) (x y : Int) (h : okInt x) (h' : okInt y) : Ints (w.alloc (.cells #[.int .i64 x, .int .i64 y] 3)) w.heap.size (w.heap.size + 1) (some ⟨w.heap.size, 0, none⟩) 2 [x, y] :=
  ⟨rfl, by omega, (fun z hz => by simp at hz; rcases hz with rfl | rfl <;> assumption), fun _ => ⟨w.heap.size, 0, rfl, Nat.le_refl _, Nat.lt_succ_self _, fun j z hz => by
    rw [Nat.zero_add]
    exact (Box.new w _ [.int .i64 x, .int .i64 y]).2 j (.int .i64 z) (by
      match j with
      | 0 => simp at hz ⊢; exact hz
      | 1 => simp at hz ⊢; exact hz
      | j + 2 => simp at hz)⟩⟩
theorem one_new {w0 w : World} {x : Int} (hb : Below w0.heap.size w0 w) (h : okInt x) : ListPost [x] w0 (.returned (.slice (some ⟨w.heap.size, 0, none⟩) 1 1)) (w.alloc (.cells #[.int .i64 x] 3)) :=
  ⟨_, _, _, rfl, Nat.le_refl _, hb.alloc hb.size _, (lit1 w x h).more hb.size (by simp)⟩
theorem two_new {w0 w : World} {x y : Int} (hb : Below w0.heap.size w0 w) (h : okInt x) (h' : okInt y) : ListPost [x, y] w0 (.returned (.slice (some ⟨w.heap.size, 0, none⟩) 2 2)) (w.alloc (.cells #[.int .i64 x, .int .i64 y] 3)) :=
  ⟨_, _, _, rfl, Nat.le_refl _, hb.alloc hb.size _, (lit2 w x y h h').more hb.size (by simp)⟩

end Go.Proofs.Ytlhbodamdjbahaa
