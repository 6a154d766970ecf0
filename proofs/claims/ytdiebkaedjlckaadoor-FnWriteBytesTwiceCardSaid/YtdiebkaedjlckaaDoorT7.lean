/- What taking bytes gives, for the promises: answers of numbers that are named; bytes that have room; two writings are one. -/
import Derived.Test.YtdiebkaedjlckaaDoorT3
import Derived.Test.YtdiebkaedjlckaaDoorW6
import Derived.Test.YtdiebkaedjlckaaDoorD8
namespace Go.Proofs.YtdiebkaedjlckaaDoor
section
open Go.ChangeShapes Go.WideShapes Go.ChangeAt Go.RowKit
set_option linter.unusedSimpArgs false
set_option linter.unusedVariables false

/-- What comes behind a region goes on in a world of which only F is known. -/
theorem wp_renameK {K : Exit → Act → World → Prop} {x : Exit} {a : Act} {W : World} (F : World → Prop) (hF : F W) (h : ∀ w2, F w2 → K x a w2) : K x a W := h W hF
/-- A writer of numbers that are named, and two ints. -/
def PostRII (D : List Int) (p : Int) (S : List Int) (q : Int) (R : List Int) (z y x : Int) (w : World) (e : Ending) (w' : World) : Prop :=
  ∃ A n c A' n' c' A2 n2 c2, e = .returned (.tuple #[.agg #[.slice (A) n c, .int .i64 (p), .slice (A') n' c', .int .i64 (q), .slice (A2) n2 c2, .int .i64 (z)], .int .i64 y, .int .i64 x]) ∧ (n ≤ c ∧ n' ≤ c' ∧ n2 ≤ c2) ∧ Below w.heap.size w w' ∧
      Ints w' w.heap.size w'.heap.size A n D ∧ Ints w' w.heap.size w'.heap.size A' n' S ∧ Ints w' w.heap.size w'.heap.size A2 n2 R
theorem to_rii {f : Nat} {args : Array Value} {w : World} {o : Rv × Int × Int} {D S R : List Int} {p q z y x : Int} (h : Calls Tryd.prog f args w (Post3W o w)) (e : o = (⟨D, p, S, q, R, z⟩, y, x)) :
    Calls Tryd.prog f args w (PostRII D p S q R z y x w) := by
  subst e
  exact h.mono fun e w' hh => by
    obtain ⟨A, n, c, A', n', c', A2, n2, c2, he, hc, hb, ⟨⟨hd, hd', _, _, _⟩, hr, _, _, _⟩⟩ := hh
    exact ⟨A, n, c, A', n', c', A2, n2, c2, he, hc, hb, hd, hd', hr⟩
/-- The answer of another world, whose memory is that of this one and more. -/
theorem PostRII.down {D S R : List Int} {p q z y x : Int} {w X w' : World} {e : Ending} (h : PostRII D p S q R z y x X e w') (hb : Below w.heap.size w X) (hs : w.heap.size ≤ X.heap.size) : PostRII D p S q R z y x w e w' := by
  obtain ⟨A, n, c, A', n', c', A2, n2, c2, he, hc, hbb, h1, h2, h3⟩ := h
  exact ⟨A, n, c, A', n', c', A2, n2, c2, he, hc, hb.trans (hbb.mono hs), h1.more hs (Nat.le_refl _), h2.more hs (Nat.le_refl _), h3.more hs (Nat.le_refl _)⟩
theorem wb_no {D S R L : List Int} {p q z e : Int} (h : (goodW D p S q R z && bytesB L) = false) : wbOut D p S q R z e L = (⟨[], 0, [], 0, [], 0⟩, 0, 5) := by unfold wbOut; rw [h]; rfl
/-- Bytes that have room are taken without a call. -/
theorem tk_room {S : List Int} {z : Nat} : ∀ (L D : List Int) (p : Int) (q : Nat) (R : List Int), R.length + L.length ≤ z → tkGo S z L D p q R = (⟨D, p, q, R ++ L, 0⟩, L.length) := by
  intro L
  induction L with
  | nil => intro D p q R _; simp [tkGo]
  | cons x xs ih =>
    intro D p q R h
    rw [List.length_cons] at h
    have hs : tkStep S z D p q R = ⟨D, p, q, R, 0⟩ := by unfold tkStep; rw [if_neg (by omega)]
    simp only [tkGo, hs]
    rw [if_neg (by omega), ih D p q (R ++ [x]) (by rw [List.length_append]; simp; omega)]
    simp
theorem zeros_bytes (k : Nat) (hk : k ≤ 60) : bytesB (List.replicate k 0) = true := by
  unfold bytesB
  rw [Bool.and_eq_true]
  exact ⟨decide_eq_true (by simpa using hk), allB_iff.2 fun x hx => by rw [List.eq_of_mem_replicate hx]; omega⟩
theorem room_yes {D S R : List Int} {p q z : Int} (h : validW D p S q R z = true) : ∃ k : Nat, k ≤ 16 ∧ z = (R.length : Int) + (k : Int) ∧ roomOut D p S q R z = (k : Int) := by
  have hv := (validW_iff.1 h).2
  obtain ⟨hz, hR, _⟩ := hv
  refine ⟨(z - (R.length : Int)).toNat, by omega, by omega, ?_⟩
  unfold roomOut
  rw [h]
  simp only [if_true]
  omega
/-- As many bytes as there is room for. -/
theorem wb_room {D S R : List Int} {p q z : Int} {k : Nat} (h : goodW D p S q R z = true) (hz : z = (R.length : Int) + (k : Int)) (hk : k ≤ 16) :
    wbOut D p S q R z (-1) (List.replicate k 0) = (⟨D, p, S, q, R ++ List.replicate k 0, z⟩, (k : Int), 0) ∧ roomOut D p S q (R ++ List.replicate k 0) z = 0 := by
  have hb := zeros_bytes k (by omega)
  obtain ⟨q0, zn, rfl, rfl, hq, hzn, hok, hL, hLb, _, _, _, _, ho, _, _, _⟩ := wb_start (e := -1) (show (goodW D p S q R z && bytesB (List.replicate k 0)) = true by rw [h, hb]; rfl)
  have hno : ¬ (-1 : Int) ∈ List.replicate k (0 : Int) := fun hm => by have := List.eq_of_mem_replicate hm; omega
  rw [ho, tkAll_no _ D p q0 R hno, tk_room _ D p q0 R (by rw [List.length_replicate]; omega)]
  refine ⟨by simp [wvOf], ?_⟩
  have hv := (goodW_iff.1 h).1
  obtain ⟨v1, v2, v3, v4⟩ := validW_iff.1 hv
  have hv2 : validW D p S (q0 : Int) (R ++ List.replicate k 0) (zn : Int) = true := validW_iff.2 ⟨v1, v2, by rw [List.length_append, List.length_replicate]; omega, allB_iff.2 fun x hx => by
    rcases List.mem_append.1 hx with hx | hx
    · exact allB_iff.1 v4 x hx
    · rw [List.eq_of_mem_replicate hx]; omega⟩
  unfold roomOut
  rw [hv2]
  simp only [if_true, List.length_append, List.length_replicate]
  omega
theorem made_ints (X : World) (k : Nat) (hk : k ≤ 60) : Ints (X.alloc (.cells (madeCells #[.int .i64 0] k) 3)) X.heap.size (X.heap.size + 1) (some ⟨X.heap.size, 0, none⟩) k (List.replicate k 0) := by
  have h := Ints.of_cells (w := X.alloc (.cells (madeCells #[.int .i64 0] k) 3)) (b := X.heap.size) (t := 3) (lo := X.heap.size) (hi := X.heap.size + 1) (xs := List.replicate k (0 : Int)) (by
    rw [Go.Deep.blk_alloc_new]
    congr 2
    apply Array.ext'
    rw [toList_madeCells_one, List.map_replicate]) (by rw [List.length_replicate]; omega) (fun x hx => by rw [List.eq_of_mem_replicate hx]; unfold okInt; omega) (Nat.le_refl _) (Nat.lt_succ_self _)
  rwa [List.length_replicate] at h
end
section
set_option linter.unusedSimpArgs false
set_option linter.unusedVariables false

theorem tkGo_append {S : List Int} {z : Nat} {Y : List Int} : ∀ (X D : List Int) (p : Int) (q : Nat) (R : List Int), tkGo S z (X ++ Y) D p q R =
    if (tkGo S z X D p q R).2 = X.length then ((tkGo S z Y (tkGo S z X D p q R).1.d (tkGo S z X D p q R).1.p (tkGo S z X D p q R).1.q (tkGo S z X D p q R).1.r).1, X.length + (tkGo S z Y (tkGo S z X D p q R).1.d (tkGo S z X D p q R).1.p (tkGo S z X D p q R).1.q (tkGo S z X D p q R).1.r).2) else tkGo S z X D p q R := by
  intro X
  induction X with
  | nil => intro D p q R; simp [tkGo]
  | cons x xs ih =>
    intro D p q R
    simp only [List.cons_append, tkGo]
    by_cases hz : (tkStep S z D p q R).r.length = z
    · simp only [if_pos hz]
      rw [if_neg (by simp)]
    · simp only [if_neg hz]
      rw [ih]
      by_cases hx : (tkGo S z xs (tkStep S z D p q R).d (tkStep S z D p q R).p (tkStep S z D p q R).q ((tkStep S z D p q R).r ++ [x])).2 = xs.length
      · rw [if_pos hx, if_pos (by rw [hx, List.length_cons])]
        simp only [List.length_cons]
        congr 1
        omega
      · rw [if_neg hx, if_neg (by rw [List.length_cons]; omega)]
theorem bytesB_take {L : List Int} (h : bytesB L = true) (k : Nat) : bytesB (L.take k) = true := by
  unfold bytesB
  rw [Bool.and_eq_true]
  have := bytesB_le h
  exact ⟨decide_eq_true (by rw [List.length_take]; omega), allB_take (bytesB_all h) k⟩
theorem bytesB_drop {L : List Int} (h : bytesB L = true) (k : Nat) : bytesB (L.drop k) = true := by
  unfold bytesB
  rw [Bool.and_eq_true]
  have := bytesB_le h
  exact ⟨decide_eq_true (by rw [List.length_drop]; omega), allB_drop (bytesB_all h) k⟩
/-- What WriteBytes gives of a good writer. -/
theorem wb_yes {D S R L : List Int} {p q z : Int} (h : (goodW D p S q R z && bytesB L) = true) : ∃ (q0 zn : Nat) (F : Fv) (N : Nat), q = (q0 : Int) ∧ z = (zn : Int) ∧ tkGo S zn L D p q0 R = (F, N) ∧
    wbOut D p S q R z (-1) L = (⟨F.d, F.p, S, (F.q : Int), F.r, z⟩, (N : Int), F.st) ∧ validW F.d F.p S (F.q : Int) F.r z = true ∧ (0 ≤ F.st ∧ F.st ≤ 4) ∧ N ≤ L.length ∧ (F.st = 0 ↔ N = L.length) ∧ L.length ≤ 60 ∧ S.length ≤ 12 ∧ F.r.length ≤ 16 ∧ F.d.length ≤ 60 ∧ (0 ≤ F.p ∧ F.p ≤ 60) ∧ (1 ≤ zn ∧ zn ≤ 16) ∧ validW D p S q R z = true := by
  obtain ⟨q0, zn, rfl, rfl, hq, hzn, hok, hL, hLb, _, hS, _, _, ho, _, _, _⟩ := wb_start (e := -1) h
  have hno : ¬ (-1 : Int) ∈ L := fun hm => by have := (allB_iff.1 hLb _ hm).1; omega
  rw [tkAll_no L D p q0 R hno] at ho
  obtain ⟨k1, k2, k3, k4, k5, k6, k7⟩ := tkGo_ok (b := 976) hzn (by omega) L D p q0 R hok (by omega) hLb
  have hvw := (goodW_iff.1 (Bool.and_eq_true_iff.1 h).1).1
  exact ⟨q0, zn, _, _, rfl, rfl, rfl, ho, validW_iff.2 ⟨k1, by omega, by omega, k2⟩, k5, k6, k7, hL, hS, by omega, bytesB_le (validD_iff.1 k1).1, (validD_iff.1 k1).2.2.2.1, hzn, hvw⟩
theorem wb_two {D S R L : List Int} {p q z : Int} (h : (goodW D p S q R z && bytesB L) = true) (k : Nat) (hk : k ≤ L.length) : ∃ (D1 : List Int) (P1 Q1 : Int) (R1 : List Int) (N1 : Nat) (st1 : Int) (D2 : List Int) (P2 Q2 : Int) (R2 : List Int) (N : Nat) (st : Int),
    wbOut D p S q R z (-1) (L.take k) = (⟨D1, P1, S, Q1, R1, z⟩, (N1 : Int), st1) ∧ wbOut D p S q R z (-1) L = (⟨D2, P2, S, Q2, R2, z⟩, (N : Int), st) ∧ ¬ st = 5 ∧ (¬ st1 = 0 → N1 = N) ∧ N1 ≤ 60 ∧ N ≤ 60 ∧
    (st1 = 0 → Q1 ≤ 900 → N1 ≤ N ∧ wbOut D1 P1 S Q1 R1 z (-1) (L.drop k) = (⟨D2, P2, S, Q2, R2, z⟩, ((N - N1 : Nat) : Int), st)) ∧ S.length ≤ 12 ∧ R1.length ≤ 16 ∧ D1.length ≤ 60 ∧ R2.length ≤ 16 ∧ D2.length ≤ 60 ∧ (0 ≤ Q1 ∧ Q1 ≤ 1000) ∧ (0 ≤ P1 ∧ P1 ≤ 60) := by
  obtain ⟨hg, hL⟩ := Bool.and_eq_true_iff.1 h
  obtain ⟨q0, zn, F, N, rfl, rfl, hF, ho, hv, hst, hN, hstN, hL60, hS, hr, hd, hp, hzn, _⟩ := wb_yes h
  obtain ⟨q1, z1, F1, N1, e1, e2, hF1, ho1, hv1, hst1, hN1, hstN1, hL1, _, hr1, hd1, hp1, _, _⟩ := wb_yes (L := L.take k) (show (goodW D p S (q0 : Int) R (zn : Int) && bytesB (L.take k)) = true by rw [hg, bytesB_take hL k]; rfl)
  obtain rfl : q0 = q1 := by omega
  obtain rfl : zn = z1 := by omega
  have happ := tkGo_append (S := S) (z := zn) (Y := L.drop k) (L.take k) D p q0 R
  rw [List.take_append_drop, hF, hF1] at happ
  have hlt : (L.take k).length = k := by rw [List.length_take]; omega
  rw [hlt] at happ hstN1 hN1
  have hq1 := (validD_iff.1 (validW_iff.1 hv1).1).2.2.2.2
  refine ⟨F1.d, F1.p, (F1.q : Int), F1.r, N1, F1.st, F.d, F.p, (F.q : Int), F.r, N, F.st, ho1, ho, by omega, ?_, by omega, by omega, ?_, hS, hr1, hd1, hr, hd, by omega, hp1⟩
  · intro hne
    have h1 : ¬ N1 = k := fun e => hne (hstN1.2 e)
    simp only at happ
    rw [if_neg h1] at happ
    injection happ with _ e
    omega
  · intro h0 hQ
    have h1 : N1 = k := hstN1.1 h0
    simp only at happ
    rw [if_pos h1] at happ
    have hg1 : goodW F1.d F1.p S (F1.q : Int) F1.r (zn : Int) = true := goodW_iff.2 ⟨hv1, hQ⟩
    obtain ⟨q2, z2, F2, N2, e3, e4, hF2, ho2, _⟩ := wb_yes (L := L.drop k) (show (goodW F1.d F1.p S (F1.q : Int) F1.r (zn : Int) && bytesB (L.drop k)) = true by rw [hg1, bytesB_drop hL k]; rfl)
    obtain rfl : F1.q = q2 := by omega
    obtain rfl : zn = z2 := by omega
    rw [hF2] at happ
    injection happ with a b
    subst a
    refine ⟨by omega, ?_⟩
    rw [ho2]
    simp only at b
    rw [show N - N1 = N2 by omega]
end
end Go.Proofs.YtdiebkaedjlckaaDoor
