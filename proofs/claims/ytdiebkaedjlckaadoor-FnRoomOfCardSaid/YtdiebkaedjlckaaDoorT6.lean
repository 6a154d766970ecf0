/- What taking bytes gives, for the promises: answers of numbers that are named; bytes that have room; two writings are one. -/
import Derived.Test.YtdiebkaedjlckaaDoorT3
import Derived.Test.YtdiebkaedjlckaaDoorW6
import Derived.Test.YtdiebkaedjlckaaDoorD8
namespace Go.Proofs.YtdiebkaedjlckaaDoor
open Go.ChangeShapes Go.WideShapes Go.ChangeAt Go.RowKit
set_option linter.unusedSimpArgs false
set_option linter.unusedVariables false

/-- What comes behind a region goes on in a world of which only F is known. -/
theorem wp_renameK {K : Exit → Act → World → Prop} {x : Exit} {a : Act} {W : World} (F : World → Prop) (hF : F W) (h : ∀ w2, F w2 → K x a w2) : K x a W := h W hF
/-- A writer of numbers that are named, and two ints. -/
def PostRII (D : List Int) (p : Int) (S : List Int) (q : Int) (R : List Int) (z y x : Int) (w : World) (e : Ending) (w' : World) : Prop :=
  ∃ A n c A' n' c' A2 n2 c2, e = .returned (.tuple #[.agg #[.slice (A) n c, .int .i64 (p), .slice (A') n' c', .int .i64 (q), .slice (A2) n2 c2, .int .i64 (z)], .int .i64 y, .int .i64 x]) ∧ (n ≤ c ∧ n' ≤ c' ∧ n2 ≤ c2) ∧ Below w.heap.size w w' ∧
      Ints w' w.heap.size w'.heap.size A n D ∧ Ints w' w.heap.size w'.heap.size A' n' S ∧ Ints w' w.heap.size w'.heap.size A2 n2 R
theorem to_rii {f : Nat} {args : Array Value} {w : World} {o : Rv × Int × Int} {D S R : List Int} {p q z y x : Int} (h : Calls Tryd.prog f args w (Post3W o w)) (e : o = (⟨D, p, S, q, R, z⟩, y, x)) :
    Calls Tryd.prog f args w (PostRII D p S q R z y x w) := by
  subst e
  exact h.mono fun e w' hh => by
    obtain ⟨A, n, c, A', n', c', A2, n2, c2, he, hc, hb, ⟨⟨hd, hd', _, _, _⟩, hr, _, _, _⟩⟩ := hh
    exact ⟨A, n, c, A', n', c', A2, n2, c2, he, hc, hb, hd, hd', hr⟩
/-- The answer of another world, whose memory is that of this one and more. -/
theorem PostRII.down {D S R : List Int} {p q z y x : Int} {w X w' : World} {e : Ending} (h : PostRII D p S q R z y x X e w') (hb : Below w.heap.size w X) (hs : w.heap.size ≤ X.heap.size) : PostRII D p S q R z y x w e w' := by
  obtain ⟨A, n, c, A', n', c', A2, n2, c2, he, hc, hbb, h1, h2, h3⟩ := h
  exact ⟨A, n, c, A', n', c', A2, n2, c2, he, hc, hb.trans (hbb.mono hs), h1.more hs (Nat.le_refl _), h2.more hs (Nat.le_refl _), h3.more hs (Nat.le_refl _)⟩
theorem wb_no {D S R L : List Int} {p q z e : Int} (h : (goodW D p S q R z && bytesB L) = false) : wbOut D p S q R z e L = (⟨[], 0, [], 0, [], 0⟩, 0, 5) := by unfold wbOut; rw [h]; rfl
/-- Bytes that have room are taken without a call. -/
theorem tk_room {S : List Int} {z : Nat} : ∀ (L D : List Int) (p : Int) (q : Nat) (R : List Int), R.length + L.length ≤ z → tkGo S z L D p q R = (⟨D, p, q, R ++ L, 0⟩, L.length) := by
  intro L
  induction L with
  | nil => intro D p q R _; simp [tkGo]
  | cons x xs ih =>
    intro D p q R h
    rw [List.length_cons] at h
    have hs : tkStep S z D p q R = ⟨D, p, q, R, 0⟩ := by unfold tkStep; rw [if_neg (by omega)]
    simp only [tkGo, hs]
    rw [if_neg (by omega), ih D p q (R ++ [x]) (by rw [List.length_append]; simp; omega)]
    simp
theorem zeros_bytes (k : Nat) (hk : k ≤ 60) : bytesB (List.replicate k 0) = true := by
  unfold bytesB
  rw [Bool.and_eq_true]
  exact ⟨decide_eq_true (by simpa using hk), allB_iff.2 fun x hx => by rw [List.eq_of_mem_replicate hx]; omega⟩
theorem room_yes {D S R : List Int} {p q z : Int} (h : validW D p S q R z = true) : ∃ k : Nat, k ≤ 16 ∧ z = (R.length : Int) + (k : Int) ∧ roomOut D p S q R z = (k : Int) := by
  have hv := (validW_iff.1 h).2
  obtain ⟨hz, hR, _⟩ := hv
  refine ⟨(z - (R.length : Int)).toNat, by omega, by omega, ?_⟩
  unfold roomOut
  rw [h]
  simp only [if_true]
  omega
/-- As many bytes as there is room for. -/
theorem wb_room {D S R : List Int} {p q z : Int} {k : Nat} (h : goodW D p S q R z = true) (hz : z = (R.length : Int) + (k : Int)) (hk : k ≤ 16) :
    wbOut D p S q R z (-1) (List.replicate k 0) = (⟨D, p, S, q, R ++ List.replicate k 0, z⟩, (k : Int), 0) ∧ roomOut D p S q (R ++ List.replicate k 0) z = 0 := by
  have hb := zeros_bytes k (by omega)
  obtain ⟨q0, zn, rfl, rfl, hq, hzn, hok, hL, hLb, _, _, _, _, ho, _, _, _⟩ := wb_start (e := -1) (show (goodW D p S q R z && bytesB (List.replicate k 0)) = true by rw [h, hb]; rfl)
  have hno : ¬ (-1 : Int) ∈ List.replicate k (0 : Int) := fun hm => by have := List.eq_of_mem_replicate hm; omega
  rw [ho, tkAll_no _ D p q0 R hno, tk_room _ D p q0 R (by rw [List.length_replicate]; omega)]
  refine ⟨by simp [wvOf], ?_⟩
  have hv := (goodW_iff.1 h).1
  obtain ⟨v1, v2, v3, v4⟩ := validW_iff.1 hv
  have hv2 : validW D p S (q0 : Int) (R ++ List.replicate k 0) (zn : Int) = true := validW_iff.2 ⟨v1, v2, by rw [List.length_append, List.length_replicate]; omega, allB_iff.2 fun x hx => by
    rcases List.mem_append.1 hx with hx | hx
    · exact allB_iff.1 v4 x hx
    · rw [List.eq_of_mem_replicate hx]; omega⟩
  unfold roomOut
  rw [hv2]
  simp only [if_true, List.length_append, List.length_replicate]
  omega
theorem made_ints (X : World) (k : Nat) (hk : k ≤ 60) : Ints (X.alloc (.cells (madeCells #[.int .i64 0] k) 3)) X.heap.size (X.heap.size + 1) (some ⟨X.heap.size, 0, none⟩) k (List.replicate k 0) := by
  have h := Ints.of_cells (w := X.alloc (.cells (madeCells #[.int .i64 0] k) 3)) (b := X.heap.size) (t := 3) (lo := X.heap.size) (hi := X.heap.size + 1) (xs := List.replicate k (0 : Int)) (by
    rw [Go.Deep.blk_alloc_new]
    congr 2
    apply Array.ext'
    rw [toList_madeCells_one, List.map_replicate]) (by rw [List.length_replicate]; omega) (fun x hx => by rw [List.eq_of_mem_replicate hx]; unfold okInt; omega) (Nat.le_refl _) (Nat.lt_succ_self _)
  rwa [List.length_replicate] at h
end Go.Proofs.YtdiebkaedjlckaaDoor
