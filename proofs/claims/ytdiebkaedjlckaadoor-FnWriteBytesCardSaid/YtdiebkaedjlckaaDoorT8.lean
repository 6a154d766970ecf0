/- The arguments of WriteBytes and of WriteLines, drawn. -/
import Derived.Test.YtdiebkaedjlckaaDoorW3
import Derived.Test.YtdiebkaedjlckaaDoorT3
import Derived.Test.YtdiebkaedjlckaaDoorW6
import Derived.Test.YtdiebkaedjlckaaDoorD8
import Derived.Test.YtdiebkaedjlckaaDoorC4a
namespace Go.Proofs.YtdiebkaedjlckaaDoor
section
open Go.ChangeShapes Go.WideShapes Go.ChangeAt Go.RowKit
set_option linter.unusedSimpArgs false
set_option linter.unusedVariables false
set_option maxRecDepth 100000

/-- A writer and bytes in new memory, drawn. -/
def DrawnRL (w : World) (e : Ending) (w' : World) : Prop := ∃ A n c A' n' c' A2 n2 c2 D S R p q z AL nL cL L, e = .returned (.tuple #[.agg #[.slice (A) n c, .int .i64 (p), .slice (A') n' c', .int .i64 (q), .slice (A2) n2 c2, .int .i64 (z)], .slice AL nL cL]) ∧ RdrX w w' A n c A' n' c' A2 n2 c2 D S R p q z ∧ nL ≤ cL ∧ nL ≤ 61 ∧ (∀ x ∈ L, -1 ≤ x ∧ x ≤ 256) ∧ Ints w' w.heap.size w'.heap.size AL nL L
set_option maxHeartbeats 4000000 in
theorem DrawWriteBytes_any {A : Option Addr} {n c : Nat} {w : World} (h : BytesIn w w.heap.size A n) (hn : n ≤ 1048576) (hnc : n ≤ c) : Calls Tryd.prog 36 #[.slice A n c] w (DrawnRL w) := by
  have R0 := Lib.hid (Box.new w 30 [.slice none 0 0, .int .i64 0, .slice none 0 0, .int .i64 0, .slice none 0 0, .int .i64 0])
  go_enter Tryd.func36, Tryd.ntmps36
  go_wp2_with fail
  refine (newChooser_any (h.allocR _) hn hnc).mono ?_
  rintro e w1 ⟨rfl, hch, hb⟩
  (try simp only [World.size_alloc, World.size_setCell, World.size_drew] at hch hb)
  have HC := Lib.hid hch
  have hg := hch.lt
  have HB : Hid (Below w.heap.size w w1) := below_step hb (by go_grown) (by omega)
  have R1 := Lib.hid (R0.out.below hb (by omega))
  have z1 := HB.out.size
  clear hch hb R0
  go_wp2_with fail
  refine (someWriter_any HC.out (by omega)).mono ?_
  rintro e w2 ⟨A, n, c, A', n', c', A2, n2, c2, D, S, R, p, q, z, M, rfl, ⟨hc, hc'⟩, ⟨hn, hn', hn2⟩, hp, hq, hz, hM0, hM1, hD, hS, hB, hch, ht⟩
  have s2 := ht.size
  have D2 := Lib.hid hD; have S2 := Lib.hid hS; have B2 := Lib.hid hB; have C2 := Lib.hid hch
  have R2 := Lib.hid (R1.out.turn ht (by omega) (by omega)); have E2 : Hid (Below w.heap.size w w2) := HB.out.trans (ht.below (by omega) (by omega))
  clear hD hS hB hch ht HC R1 HB
  go_wp2_with fail
  refine (anyBytes_any C2.out (by omega)).mono ?_
  rintro e w3 ⟨v, L, rfl, ⟨hL1, hL2⟩, hown, hch, ht⟩
  obtain ⟨AL, cL, rfl, hcL, hI⟩ := hown.ints (fun x hx => by have := hL2 x hx; unfold okInt; omega)
  have LI := Lib.hid hI
  have HL2 := Lib.hid hL2
  have hlo : w.heap.size < w2.heap.size := by omega
  clear hown hI hL2
  have D3 := Lib.hid (D2.out.turn ht (by omega) (by omega)); have S3 := Lib.hid (S2.out.turn ht (by omega) (by omega)); have B3 := Lib.hid (B2.out.turn ht (by omega) (by omega)); have R3 := Lib.hid (R2.out.turn ht (by omega) (by omega)); have E3 : Hid (Below w.heap.size w w3) := E2.out.trans (ht.below (by omega) (by omega)); have s3 := ht.size; have C3 := Lib.hid hch
  clear D2 S2 B2 R2 E2 C2 hch ht
  have r0 := (R3.out.2 0 _ rfl).1; have r1 := (R3.out.2 1 _ rfl).1; have r2 := (R3.out.2 2 _ rfl).1; have r3 := (R3.out.2 3 _ rfl).1; have r4 := (R3.out.2 4 _ rfl).1; have r5 := (R3.out.2 5 _ rfl).1
  have g0 := (R3.out.2 0 _ rfl).2; have g1 := (R3.out.2 1 _ rfl).2; have g2 := (R3.out.2 2 _ rfl).2; have g3 := (R3.out.2 3 _ rfl).2; have g4 := (R3.out.2 4 _ rfl).2; have g5 := (R3.out.2 5 _ rfl).2
  go_wp2
  refine bodyPost_ret (v := .tuple #[.agg #[.slice (A) n c, .int .i64 (p), .slice (A') n' c', .int .i64 (q), .slice (A2) n2 c2, .int .i64 (z)], .slice AL L.length cL]) (by simp [results, Tryd.results36, go_sem, r0, r1, r2, r3, r4, r5, g0, g1, g2, g3, g4, g5]) rfl ?_
  refine ⟨A, n, c, A', n', c', A2, n2, c2, D, S, R, p, q, z, AL, L.length, cL, L, rfl, ⟨⟨hc, hc', B3.out.cap⟩, ⟨hn, hn', hn2⟩, hp, hq, hz, ?_, ?_, ?_, ?_⟩, hcL, hL1, HL2.out, ?_⟩
  · (repeat (with_reducible refine below_set ?_ (by omega) _))
    exact E3.out
  · simp only [World.size_setCell]
    refine Ints.more (lo := w1.heap.size) (hi := M) ?_ (by omega) (by omega)
    (repeat (with_reducible refine Ints.set_ ?_ (by omega) _))
    exact D3.out
  · simp only [World.size_setCell]
    refine Ints.more (lo := w1.heap.size) (hi := M) ?_ (by omega) (by omega)
    (repeat (with_reducible refine Ints.set_ ?_ (by omega) _))
    exact S3.out
  · simp only [World.size_setCell]
    refine Ints.more (lo := M) (hi := w2.heap.size) ?_ (by omega) (by omega)
    (repeat (with_reducible refine Ints.set_ ?_ (by omega) _))
    exact B3.out.ints
  · simp only [World.size_setCell]
    refine Ints.more (lo := w2.heap.size) (hi := w3.heap.size) ?_ (by omega) (Nat.le_refl _)
    (repeat (with_reducible refine Ints.set_ ?_ (by omega) _))
    exact LI.out
set_option maxHeartbeats 1000000 in
theorem DrawWriteLines_any {A : Option Addr} {n c : Nat} {w : World} (h : BytesIn w w.heap.size A n) (hn : n ≤ 1048576) (hnc : n ≤ c) : Calls Tryd.prog 43 #[.slice A n c] w (DrawnRL w) := by
  have R0 := Lib.hid (Box.new w 30 [.slice none 0 0, .int .i64 0, .slice none 0 0, .int .i64 0, .slice none 0 0, .int .i64 0])
  go_enter Tryd.func43, Tryd.ntmps43
  go_wp2_with fail
  refine (DrawWriteBytes_any (h.allocR _) hn hnc).mono ?_
  rintro e w1 ⟨A, n, c, A', n', c', A2, n2, c2, D, S, R, p, q, z, AL, nL, cL, L, rfl, ⟨hc, hn, hp, hq, hz, hb, hd, hd', hr⟩, hcL, hL1, hL2, hl⟩
  (try simp only [World.size_alloc, World.size_setCell, World.size_drew] at hb hd hd' hr hl)
  have HB := Lib.hid hb
  have s1 := HB.out.size
  (try simp only [World.size_alloc, World.size_setCell, World.size_drew] at s1)
  have R1 := Lib.hid (R0.out.below hb (by omega))
  have D1 := Lib.hid hd; have S1 := Lib.hid hd'; have B1 := Lib.hid hr; have L1 := Lib.hid hl; have HL2 := Lib.hid hL2
  have E1 : Hid (Below w.heap.size w w1) := below_step hb (by go_grown) (by omega)
  clear hb hd hd' hr hl hL2 HB R0
  have r0 := (R1.out.2 0 _ rfl).1; have r1 := (R1.out.2 1 _ rfl).1; have r2 := (R1.out.2 2 _ rfl).1; have r3 := (R1.out.2 3 _ rfl).1; have r4 := (R1.out.2 4 _ rfl).1; have r5 := (R1.out.2 5 _ rfl).1
  have g0 := (R1.out.2 0 _ rfl).2; have g1 := (R1.out.2 1 _ rfl).2; have g2 := (R1.out.2 2 _ rfl).2; have g3 := (R1.out.2 3 _ rfl).2; have g4 := (R1.out.2 4 _ rfl).2; have g5 := (R1.out.2 5 _ rfl).2
  go_wp2
  refine bodyPost_ret (v := .tuple #[.agg #[.slice (A) n c, .int .i64 (p), .slice (A') n' c', .int .i64 (q), .slice (A2) n2 c2, .int .i64 (z)], .slice AL nL cL]) (by simp [results, Tryd.results43, go_sem, r0, r1, r2, r3, r4, r5, g0, g1, g2, g3, g4, g5]) rfl ?_
  refine ⟨A, n, c, A', n', c', A2, n2, c2, D, S, R, p, q, z, AL, nL, cL, L, rfl, ⟨hc, hn, hp, hq, hz, ?_, ?_, ?_, ?_⟩, hcL, hL1, HL2.out, ?_⟩
  · (repeat (with_reducible refine below_set ?_ (by omega) _))
    exact E1.out
  all_goals
    simp only [World.size_setCell]
    refine Ints.more (lo := w.heap.size + 1) (hi := w1.heap.size) ?_ (by omega) (Nat.le_refl _)
    (repeat (with_reducible refine Ints.set_ ?_ (by omega) _))
    first | exact D1.out | exact S1.out | exact B1.out | exact L1.out
end
section
section
open Go.ChangeShapes Go.WideShapes Go.ChangeAt Go.RowKit
set_option linter.unusedSimpArgs false
set_option linter.unusedVariables false

/-- What comes behind a region goes on in a world of which only F is known. -/
theorem wp_renameK {K : Exit → Act → World → Prop} {x : Exit} {a : Act} {W : World} (F : World → Prop) (hF : F W) (h : ∀ w2, F w2 → K x a w2) : K x a W := h W hF
/-- A writer of numbers that are named, and two ints. -/
def PostRII (D : List Int) (p : Int) (S : List Int) (q : Int) (R : List Int) (z y x : Int) (w : World) (e : Ending) (w' : World) : Prop :=
  ∃ A n c A' n' c' A2 n2 c2, e = .returned (.tuple #[.agg #[.slice (A) n c, .int .i64 (p), .slice (A') n' c', .int .i64 (q), .slice (A2) n2 c2, .int .i64 (z)], .int .i64 y, .int .i64 x]) ∧ (n ≤ c ∧ n' ≤ c' ∧ n2 ≤ c2) ∧ Below w.heap.size w w' ∧
      Ints w' w.heap.size w'.heap.size A n D ∧ Ints w' w.heap.size w'.heap.size A' n' S ∧ Ints w' w.heap.size w'.heap.size A2 n2 R
theorem to_rii {f : Nat} {args : Array Value} {w : World} {o : Rv × Int × Int} {D S R : List Int} {p q z y x : Int} (h : Calls Tryd.prog f args w (Post3W o w)) (e : o = (⟨D, p, S, q, R, z⟩, y, x)) :
    Calls Tryd.prog f args w (PostRII D p S q R z y x w) := by
  subst e
  exact h.mono fun e w' hh => by
    obtain ⟨A, n, c, A', n', c', A2, n2, c2, he, hc, hb, ⟨⟨hd, hd', _, _, _⟩, hr, _, _, _⟩⟩ := hh
    exact ⟨A, n, c, A', n', c', A2, n2, c2, he, hc, hb, hd, hd', hr⟩
/-- The answer of another world, whose memory is that of this one and more. -/
theorem PostRII.down {D S R : List Int} {p q z y x : Int} {w X w' : World} {e : Ending} (h : PostRII D p S q R z y x X e w') (hb : Below w.heap.size w X) (hs : w.heap.size ≤ X.heap.size) : PostRII D p S q R z y x w e w' := by
  obtain ⟨A, n, c, A', n', c', A2, n2, c2, he, hc, hbb, h1, h2, h3⟩ := h
  exact ⟨A, n, c, A', n', c', A2, n2, c2, he, hc, hb.trans (hbb.mono hs), h1.more hs (Nat.le_refl _), h2.more hs (Nat.le_refl _), h3.more hs (Nat.le_refl _)⟩
theorem wb_no {D S R L : List Int} {p q z e : Int} (h : (goodW D p S q R z && bytesB L) = false) : wbOut D p S q R z e L = (⟨[], 0, [], 0, [], 0⟩, 0, 5) := by unfold wbOut; rw [h]; rfl
/-- Bytes that have room are taken without a call. -/
theorem tk_room {S : List Int} {z : Nat} : ∀ (L D : List Int) (p : Int) (q : Nat) (R : List Int), R.length + L.length ≤ z → tkGo S z L D p q R = (⟨D, p, q, R ++ L, 0⟩, L.length) := by
  intro L
  induction L with
  | nil => intro D p q R _; simp [tkGo]
  | cons x xs ih =>
    intro D p q R h
    rw [List.length_cons] at h
    have hs : tkStep S z D p q R = ⟨D, p, q, R, 0⟩ := by unfold tkStep; rw [if_neg (by omega)]
    simp only [tkGo, hs]
    rw [if_neg (by omega), ih D p q (R ++ [x]) (by rw [List.length_append]; simp; omega)]
    simp
theorem zeros_bytes (k : Nat) (hk : k ≤ 60) : bytesB (List.replicate k 0) = true := by
  unfold bytesB
  rw [Bool.and_eq_true]
  exact ⟨decide_eq_true (by simpa using hk), allB_iff.2 fun x hx => by rw [List.eq_of_mem_replicate hx]; omega⟩
theorem room_yes {D S R : List Int} {p q z : Int} (h : validW D p S q R z = true) : ∃ k : Nat, k ≤ 16 ∧ z = (R.length : Int) + (k : Int) ∧ roomOut D p S q R z = (k : Int) := by
  have hv := (validW_iff.1 h).2
  obtain ⟨hz, hR, _⟩ := hv
  refine ⟨(z - (R.length : Int)).toNat, by omega, by omega, ?_⟩
  unfold roomOut
  rw [h]
  simp only [if_true]
  omega
/-- As many bytes as there is room for. -/
theorem wb_room {D S R : List Int} {p q z : Int} {k : Nat} (h : goodW D p S q R z = true) (hz : z = (R.length : Int) + (k : Int)) (hk : k ≤ 16) :
    wbOut D p S q R z (-1) (List.replicate k 0) = (⟨D, p, S, q, R ++ List.replicate k 0, z⟩, (k : Int), 0) ∧ roomOut D p S q (R ++ List.replicate k 0) z = 0 := by
  have hb := zeros_bytes k (by omega)
  obtain ⟨q0, zn, rfl, rfl, hq, hzn, hok, hL, hLb, _, _, _, _, ho, _, _, _⟩ := wb_start (e := -1) (show (goodW D p S q R z && bytesB (List.replicate k 0)) = true by rw [h, hb]; rfl)
  have hno : ¬ (-1 : Int) ∈ List.replicate k (0 : Int) := fun hm => by have := List.eq_of_mem_replicate hm; omega
  rw [ho, tkAll_no _ D p q0 R hno, tk_room _ D p q0 R (by rw [List.length_replicate]; omega)]
  refine ⟨by simp [wvOf], ?_⟩
  have hv := (goodW_iff.1 h).1
  obtain ⟨v1, v2, v3, v4⟩ := validW_iff.1 hv
  have hv2 : validW D p S (q0 : Int) (R ++ List.replicate k 0) (zn : Int) = true := validW_iff.2 ⟨v1, v2, by rw [List.length_append, List.length_replicate]; omega, allB_iff.2 fun x hx => by
    rcases List.mem_append.1 hx with hx | hx
    · exact allB_iff.1 v4 x hx
    · rw [List.eq_of_mem_replicate hx]; omega⟩
  unfold roomOut
  rw [hv2]
  simp only [if_true, List.length_append, List.length_replicate]
  omega
theorem made_ints (X : World) (k : Nat) (hk : k ≤ 60) : Ints (X.alloc (.cells (madeCells #[.int .i64 0] k) 3)) X.heap.size (X.heap.size + 1) (some ⟨X.heap.size, 0, none⟩) k (List.replicate k 0) := by
  have h := Ints.of_cells (w := X.alloc (.cells (madeCells #[.int .i64 0] k) 3)) (b := X.heap.size) (t := 3) (lo := X.heap.size) (hi := X.heap.size + 1) (xs := List.replicate k (0 : Int)) (by
    rw [Go.Deep.blk_alloc_new]
    congr 2
    apply Array.ext'
    rw [toList_madeCells_one, List.map_replicate]) (by rw [List.length_replicate]; omega) (fun x hx => by rw [List.eq_of_mem_replicate hx]; unfold okInt; omega) (Nat.le_refl _) (Nat.lt_succ_self _)
  rwa [List.length_replicate] at h
end
section
set_option linter.unusedSimpArgs false
set_option linter.unusedVariables false

theorem tkGo_append {S : List Int} {z : Nat} {Y : List Int} : ∀ (X D : List Int) (p : Int) (q : Nat) (R : List Int), tkGo S z (X ++ Y) D p q R =
    if (tkGo S z X D p q R).2 = X.length then ((tkGo S z Y (tkGo S z X D p q R).1.d (tkGo S z X D p q R).1.p (tkGo S z X D p q R).1.q (tkGo S z X D p q R).1.r).1, X.length + (tkGo S z Y (tkGo S z X D p q R).1.d (tkGo S z X D p q R).1.p (tkGo S z X D p q R).1.q (tkGo S z X D p q R).1.r).2) else tkGo S z X D p q R := by
  intro X
  induction X with
  | nil => intro D p q R; simp [tkGo]
  | cons x xs ih =>
    intro D p q R
    simp only [List.cons_append, tkGo]
    by_cases hz : (tkStep S z D p q R).r.length = z
    · simp only [if_pos hz]
      rw [if_neg (by simp)]
    · simp only [if_neg hz]
      rw [ih]
      by_cases hx : (tkGo S z xs (tkStep S z D p q R).d (tkStep S z D p q R).p (tkStep S z D p q R).q ((tkStep S z D p q R).r ++ [x])).2 = xs.length
      · rw [if_pos hx, if_pos (by rw [hx, List.length_cons])]
        simp only [List.length_cons]
        congr 1
        omega
      · rw [if_neg hx, if_neg (by rw [List.length_cons]; omega)]
theorem bytesB_take {L : List Int} (h : bytesB L = true) (k : Nat) : bytesB (L.take k) = true := by
  unfold bytesB
  rw [Bool.and_eq_true]
  have := bytesB_le h
  exact ⟨decide_eq_true (by rw [List.length_take]; omega), allB_take (bytesB_all h) k⟩
theorem bytesB_drop {L : List Int} (h : bytesB L = true) (k : Nat) : bytesB (L.drop k) = true := by
  unfold bytesB
  rw [Bool.and_eq_true]
  have := bytesB_le h
  exact ⟨decide_eq_true (by rw [List.length_drop]; omega), allB_drop (bytesB_all h) k⟩
/-- What WriteBytes gives of a good writer. -/
theorem wb_yes {D S R L : List Int} {p q z : Int} (h : (goodW D p S q R z && bytesB L) = true) : ∃ (q0 zn : Nat) (F : Fv) (N : Nat), q = (q0 : Int) ∧ z = (zn : Int) ∧ tkGo S zn L D p q0 R = (F, N) ∧
    wbOut D p S q R z (-1) L = (⟨F.d, F.p, S, (F.q : Int), F.r, z⟩, (N : Int), F.st) ∧ validW F.d F.p S (F.q : Int) F.r z = true ∧ (0 ≤ F.st ∧ F.st ≤ 4) ∧ N ≤ L.length ∧ (F.st = 0 ↔ N = L.length) ∧ L.length ≤ 60 ∧ S.length ≤ 12 ∧ F.r.length ≤ 16 ∧ F.d.length ≤ 60 ∧ (0 ≤ F.p ∧ F.p ≤ 60) ∧ (1 ≤ zn ∧ zn ≤ 16) ∧ validW D p S q R z = true := by
  obtain ⟨q0, zn, rfl, rfl, hq, hzn, hok, hL, hLb, _, hS, _, _, ho, _, _, _⟩ := wb_start (e := -1) h
  have hno : ¬ (-1 : Int) ∈ L := fun hm => by have := (allB_iff.1 hLb _ hm).1; omega
  rw [tkAll_no L D p q0 R hno] at ho
  obtain ⟨k1, k2, k3, k4, k5, k6, k7⟩ := tkGo_ok (b := 976) hzn (by omega) L D p q0 R hok (by omega) hLb
  have hvw := (goodW_iff.1 (Bool.and_eq_true_iff.1 h).1).1
  exact ⟨q0, zn, _, _, rfl, rfl, rfl, ho, validW_iff.2 ⟨k1, by omega, by omega, k2⟩, k5, k6, k7, hL, hS, by omega, bytesB_le (validD_iff.1 k1).1, (validD_iff.1 k1).2.2.2.1, hzn, hvw⟩
theorem wb_two {D S R L : List Int} {p q z : Int} (h : (goodW D p S q R z && bytesB L) = true) (k : Nat) (hk : k ≤ L.length) : ∃ (D1 : List Int) (P1 Q1 : Int) (R1 : List Int) (N1 : Nat) (st1 : Int) (D2 : List Int) (P2 Q2 : Int) (R2 : List Int) (N : Nat) (st : Int),
    wbOut D p S q R z (-1) (L.take k) = (⟨D1, P1, S, Q1, R1, z⟩, (N1 : Int), st1) ∧ wbOut D p S q R z (-1) L = (⟨D2, P2, S, Q2, R2, z⟩, (N : Int), st) ∧ ¬ st = 5 ∧ (¬ st1 = 0 → N1 = N) ∧ N1 ≤ 60 ∧ N ≤ 60 ∧
    (st1 = 0 → Q1 ≤ 900 → N1 ≤ N ∧ wbOut D1 P1 S Q1 R1 z (-1) (L.drop k) = (⟨D2, P2, S, Q2, R2, z⟩, ((N - N1 : Nat) : Int), st)) ∧ S.length ≤ 12 ∧ R1.length ≤ 16 ∧ D1.length ≤ 60 ∧ R2.length ≤ 16 ∧ D2.length ≤ 60 ∧ (0 ≤ Q1 ∧ Q1 ≤ 1000) ∧ (0 ≤ P1 ∧ P1 ≤ 60) := by
  obtain ⟨hg, hL⟩ := Bool.and_eq_true_iff.1 h
  obtain ⟨q0, zn, F, N, rfl, rfl, hF, ho, hv, hst, hN, hstN, hL60, hS, hr, hd, hp, hzn, _⟩ := wb_yes h
  obtain ⟨q1, z1, F1, N1, e1, e2, hF1, ho1, hv1, hst1, hN1, hstN1, hL1, _, hr1, hd1, hp1, _, _⟩ := wb_yes (L := L.take k) (show (goodW D p S (q0 : Int) R (zn : Int) && bytesB (L.take k)) = true by rw [hg, bytesB_take hL k]; rfl)
  obtain rfl : q0 = q1 := by omega
  obtain rfl : zn = z1 := by omega
  have happ := tkGo_append (S := S) (z := zn) (Y := L.drop k) (L.take k) D p q0 R
  rw [List.take_append_drop, hF, hF1] at happ
  have hlt : (L.take k).length = k := by rw [List.length_take]; omega
  rw [hlt] at happ hstN1 hN1
  have hq1 := (validD_iff.1 (validW_iff.1 hv1).1).2.2.2.2
  refine ⟨F1.d, F1.p, (F1.q : Int), F1.r, N1, F1.st, F.d, F.p, (F.q : Int), F.r, N, F.st, ho1, ho, by omega, ?_, by omega, by omega, ?_, hS, hr1, hd1, hr, hd, by omega, hp1⟩
  · intro hne
    have h1 : ¬ N1 = k := fun e => hne (hstN1.2 e)
    simp only at happ
    rw [if_neg h1] at happ
    injection happ with _ e
    omega
  · intro h0 hQ
    have h1 : N1 = k := hstN1.1 h0
    simp only at happ
    rw [if_pos h1] at happ
    have hg1 : goodW F1.d F1.p S (F1.q : Int) F1.r (zn : Int) = true := goodW_iff.2 ⟨hv1, hQ⟩
    obtain ⟨q2, z2, F2, N2, e3, e4, hF2, ho2, _⟩ := wb_yes (L := L.drop k) (show (goodW F1.d F1.p S (F1.q : Int) F1.r (zn : Int) && bytesB (L.drop k)) = true by rw [hg1, bytesB_drop hL k]; rfl)
    obtain rfl : F1.q = q2 := by omega
    obtain rfl : zn = z2 := by omega
    rw [hF2] at happ
    injection happ with a b
    subst a
    refine ⟨by omega, ?_⟩
    rw [ho2]
    simp only at b
    rw [show N - N1 = N2 by omega]
end
end
section
open Go.ChangeShapes Go.WideShapes Go.ChangeAt Go.RowKit
set_option linter.unusedSimpArgs false
set_option linter.unusedVariables false

/-- What would be in the device after all was written. -/
def wrS (D : List Int) (p : Int) (R : List Int) : List Int := wrL D p.toNat (R.take (60 - p.toNat))
theorem wrS_app {D : List Int} {p : Int} {R Y : List Int} (hp : 0 ≤ p ∧ p ≤ 60) : wrS D p (R ++ Y) = wrL (wrS D p R) (p.toNat + R.length) (Y.take (60 - (p.toNat + R.length))) := by
  unfold wrS
  by_cases h : p.toNat + R.length ≤ 60
  · rw [List.take_append, List.take_of_length_le (show R.length ≤ 60 - p.toNat by omega), show 60 - p.toNat - R.length = 60 - (p.toNat + R.length) by omega]
    by_cases hR : R = []
    · subst hR; simp [wrL_nil]
    · rw [wrL_two _ _ _ _ hR]
  · rw [List.take_append, show 60 - p.toNat - R.length = 0 by omega, show 60 - (p.toNat + R.length) = 0 by omega]
    simp [wrL_nil]
theorem wr_cons {Z Y : List Int} {t : Nat} {x : Int} : wrL (wrL Z t ([x].take (60 - t))) (t + 1) (Y.take (60 - (t + 1))) = wrL Z t ((x :: Y).take (60 - t)) := by
  by_cases h : t < 60
  · rw [show 60 - t = (60 - (t + 1)) + 1 by omega]
    simp only [List.take_succ_cons, List.take_nil]
    have := wrL_two Z [x] (Y.take (60 - (t + 1))) t (by simp)
    simpa using this
  · rw [show 60 - t = 0 by omega, show 60 - (t + 1) = 0 by omega]
    simp [wrL_nil]
/-- What was taken is seen. -/
theorem tkAll_seen {S : List Int} {z b : Nat} {e : Int} (hz : 1 ≤ z ∧ z ≤ 16) (hb9 : b ≤ 976) : ∀ (L : List Int) (D : List Int) (p : Int) (q : Nat) (R : List Int), TkOk S z b L.length D p q R → 12 + z + L.length ≤ b → allB L 0 255 = true →
    wrS (tkAll S z e L D p q R).1.d (tkAll S z e L D p q R).1.p (tkAll S z e L D p q R).1.r = wrL (wrS D p R) (p.toNat + R.length) ((L.take (tkAll S z e L D p q R).2).take (60 - (p.toNat + R.length))) ∧
    (tkAll S z e L D p q R).1.p + ((tkAll S z e L D p q R).1.r.length : Int) = p + (R.length : Int) + ((tkAll S z e L D p q R).2 : Int) ∧
    ((tkAll S z e L D p q R).1.st = 0 → (tkAll S z e L D p q R).2 = L.length) := by
  intro L
  induction L with
  | nil => intro D p q R h _ _; simp [tkAll, wrL_nil]
  | cons x xs ih =>
    intro D p q R h hb hL
    rw [List.length_cons] at h hb
    obtain ⟨g1, g2, g3, g4, g5, g6, g7⟩ := h.step hz hb (by omega)
    obtain ⟨v1, v2, v3, v4, v5⟩ := h
    have hx := allB_iff.1 hL x (List.mem_cons_self ..)
    have hxs : allB xs 0 255 = true := allB_iff.2 fun y hy => allB_iff.1 hL y (List.mem_cons_of_mem _ hy)
    have hp0 := (validD_iff.1 v1).2.2.2.1
    have hp1 := (validD_iff.1 g1).2.2.2.1
    have hT : wrS (tkStep S z D p q R).d (tkStep S z D p q R).p (tkStep S z D p q R).r = wrS D p R ∧ (tkStep S z D p q R).p + ((tkStep S z D p q R).r.length : Int) = p + (R.length : Int) := by
      unfold tkStep
      split
      · obtain ⟨a, b, _⟩ := fuGo_seen (S := S) R.length D p q R v1 v2 (Nat.le_refl _) (by omega)
        exact ⟨a, b⟩
      · exact ⟨rfl, rfl⟩
    simp only [tkAll]
    generalize tkStep S z D p q R = T at *
    have ht : T.p.toNat + T.r.length = p.toNat + R.length := by omega
    by_cases hf : T.r.length = z
    · simp only [if_pos hf]
      refine ⟨by rw [hT.1]; simp [wrL_nil], by rw [hT.2]; simp, fun h0 => absurd h0 (g7 hf)⟩
    · simp only [if_neg hf]
      have hk := g6 hf x hx.1 hx.2
      have hap : wrS T.d T.p (T.r ++ [x]) = wrL (wrS D p R) (p.toNat + R.length) ([x].take (60 - (p.toNat + R.length))) := by rw [wrS_app hp1, hT.1, ht]
      have htl : T.p + ((T.r ++ [x]).length : Int) = p + (R.length : Int) + 1 := by rw [List.length_append]; have := hT.2; simp; omega
      have htn : T.p.toNat + (T.r ++ [x]).length = p.toNat + R.length + 1 := by rw [List.length_append]; simp; omega
      by_cases hxe : x = e
      · simp only [if_pos hxe]
        obtain ⟨f1, f2, f3, f4, f5, f6⟩ := hk.flush hz (by omega) (by omega)
        obtain ⟨w1, w2, w3, w4, w5⟩ := hk
        obtain ⟨s1, s2, s3⟩ := fuGo_seen (S := S) (T.r ++ [x]).length T.d T.p T.q (T.r ++ [x]) w1 w2 (Nat.le_refl _) (by omega)
        generalize fuGo S (T.r ++ [x]).length T.d T.p T.q (T.r ++ [x]) = U at *
        have hU : wrS U.d U.p U.r = wrL (wrS D p R) (p.toNat + R.length) ([x].take (60 - (p.toNat + R.length))) := s1.trans hap
        have hU2 : U.p + (U.r.length : Int) = p + (R.length : Int) + 1 := s2.trans htl
        have hup := (validD_iff.1 f1).2.2.2.1
        by_cases hu : U.st = 0
        · simp only [if_pos hu]
          obtain ⟨i1, i2, i3⟩ := ih U.d U.p U.q U.r (f6 hu) (by omega) hxs
          refine ⟨?_, by rw [i2, hU2]; simp; omega, fun h0 => by rw [i3 h0, List.length_cons]⟩
          rw [i1, hU, show U.p.toNat + U.r.length = p.toNat + R.length + 1 by omega, wr_cons, List.take_succ_cons]
        · simp only [if_neg hu]
          refine ⟨by rw [hU]; simp, by rw [hU2]; simp, fun h0 => absurd h0 hu⟩
      · simp only [if_neg hxe]
        obtain ⟨i1, i2, i3⟩ := ih T.d T.p T.q (T.r ++ [x]) hk (by omega) hxs
        refine ⟨?_, by rw [i2, htl]; simp; omega, fun h0 => by rw [i3 h0, List.length_cons]⟩
        rw [i1, hap, htn, wr_cons, List.take_succ_cons]
/-- A plain file of numbers that are named, and an int. -/
def PostPIW (D : List Int) (p y : Int) (w : World) (e : Ending) (w' : World) : Prop :=
  ∃ A n c, e = .returned (.tuple #[.agg #[.slice (A) n c, .int .i64 (p)], .int .i64 y]) ∧ n ≤ c ∧ Below w.heap.size w w' ∧ Ints w' w.heap.size w'.heap.size A n D
theorem to_piw {f : Nat} {args : Array Value} {w : World} {o : Pv × Int} {D : List Int} {p y : Int} (h : Calls Tryd.prog f args w (PostPI o w)) (e : o = (⟨D, p⟩, y)) : Calls Tryd.prog f args w (PostPIW D p y w) := by
  subst e
  refine h.mono fun e w' hh => ?_
  obtain ⟨A, n, c, he, hc, hb, h1, _⟩ := hh
  exact ⟨A, n, c, he, hc, hb, h1⟩
theorem take_wa (L : List Int) (a : Nat) : L.take (waM a L.length) = L.take (60 - a) := by
  unfold waM
  by_cases h : L.length ≤ 60 - a
  · rw [Nat.min_eq_left h, List.take_of_length_le (Nat.le_refl _), List.take_of_length_le h]
  · rw [Nat.min_eq_right (by omega)]
theorem wb_len {D S R L : List Int} {p q z : Int} (h : (goodW D p S q R z && bytesB L) = true) : (wbOut D p S q R z (-1) L).2.2 = 0 ↔ (wbOut D p S q R z (-1) L).2.1 = (L.length : Int) := by
  obtain ⟨q0, zn, F, N, _, _, _, ho, _, _, _, hN, _⟩ := wb_yes h
  rw [ho]
  show F.st = 0 ↔ (N : Int) = (L.length : Int)
  rw [hN]
  omega
/-- What taking bytes gives, as it is seen. -/
theorem wb_seen {D S R L : List Int} {p q z e : Int} (h : (goodW D p S q R z && bytesB L) = true) : ∃ (D2 : List Int) (P2 Q2 : Int) (R2 : List Int) (N : Nat) (st : Int) (V V2 : List Int) (tl : Int),
    wbOut D p S q R z e L = (⟨D2, P2, S, Q2, R2, z⟩, (N : Int), st) ∧ ¬ st = 5 ∧ N ≤ L.length ∧ L.length ≤ 60 ∧ (st = 0 → N = L.length) ∧ validW D2 P2 S Q2 R2 z = true ∧ seenOut D p S q R z = V ∧ tellWOut D p S q R z = tl ∧ (0 ≤ tl ∧ tl ≤ 76) ∧ V.length ≤ 60 ∧
    seenOut D2 P2 S Q2 R2 z = V2 ∧ tellWOut D2 P2 S Q2 R2 z = tl + (N : Int) ∧ V2.length ≤ 60 ∧ (tl ≤ 60 → pwOut V tl (L.take N) = (⟨V2, tl + ((waM tl.toNat N : Nat) : Int)⟩, ((waM tl.toNat N : Nat) : Int))) ∧ S.length ≤ 12 ∧ R2.length ≤ 16 ∧ D2.length ≤ 60 ∧ validW D p S q R z = true := by
  obtain ⟨hg, hL⟩ := Bool.and_eq_true_iff.1 h
  obtain ⟨q0, zn, rfl, rfl, hq, hzn, hok, hL60, hLb, hD, hS, hR, hp, ho, hv, hr, hN⟩ := wb_start (e := e) h
  obtain ⟨k1, k2, k3, k4, k5, k6⟩ := tkAll_ok (e := e) (b := 976) hzn (by omega) L D p q0 R hok (by omega) hLb
  obtain ⟨s1, s2, s3⟩ := tkAll_seen (e := e) (b := 976) hzn (by omega) L D p q0 R hok (by omega) hLb
  have hvw := (goodW_iff.1 hg).1
  have hbw := (validW_iff.1 hvw).2.2.2
  generalize tkAll S zn e L D p q0 R = o at *
  obtain ⟨F, N⟩ := o
  simp only at *
  have hv2 : validW F.d F.p S (F.q : Int) F.r (zn : Int) = true := validW_iff.2 ⟨k1, by omega, by omega, k2⟩
  have hle := seenOut_le D p S (q0 : Int) R (zn : Int)
  have hle2 := seenOut_le F.d F.p S (F.q : Int) F.r (zn : Int)
  refine ⟨F.d, F.p, (F.q : Int), F.r, N, F.st, _, _, _, ho, by omega, k6, hL60, s3, hv2, rfl, rfl, ?_, hle, rfl, ?_, hle2, ?_, hS, by omega, bytesB_le (validD_iff.1 k1).1, hvw⟩
  · rw [tellw_yes hvw]; omega
  · rw [tellw_yes hv2, tellw_yes hvw, s2]
  · intro ht
    rw [tellw_yes hvw] at ht ⊢
    have hVb : bytesB (seenOut D p S (q0 : Int) R (zn : Int)) = true := by
      rw [seen_yes hvw]
      refine wrL_bytes (validD_iff.1 (validW_iff.1 hvw).1).1 (allB_take hbw _) ?_
      rw [List.length_take]; omega
    have hNb := bytesB_take hL N
    have hvp : (validP (seenOut D p S (q0 : Int) R (zn : Int)) (p + (R.length : Int)) && bytesB (L.take N)) = true := by rw [validP_iff.2 ⟨hVb, by omega, ht⟩, hNb]; rfl
    have hlen : (L.take N).length = N := by rw [List.length_take]; omega
    unfold pwOut
    rw [hvp]
    simp only [if_true]
    rw [take_wa, hlen]
    have e1 : (p + (R.length : Int)).toNat = p.toNat + R.length := by omega
    rw [e1]
    congr 2
    rw [seen_yes hv2, seen_yes hvw]
    exact s1.symm
end
end Go.Proofs.YtdiebkaedjlckaaDoor
