/- Contracts of canCall and of ReadDevice. -/
import Derived.Test.YtbphijnhcpcclaaC1e
namespace Go.Proofs.Ytbphijnhcpcclaa
open Go.ChangeShapes Go.WideShapes Go.ChangeAt Go.RowKit
set_option linter.unusedSimpArgs false
set_option linter.unusedVariables false

/-- A device's numbers, as one. -/
structure Dv where
  d : List Int
  p : Int
  s : List Int
  q : Int
def Dv.zero : Dv := ⟨[], 0, [], 0⟩
def goodCall (D : List Int) (p : Int) (S : List Int) (q : Int) : Bool := validD D p S q && decide (q < 1000)
def rdGood (D : List Int) (p : Int) (S : List Int) (q N : Int) : Bool := goodCall D p S q && inB N 1 60
/-- What ReadDevice gives. -/
def rdOut (D : List Int) (p : Int) (S : List Int) (q N : Int) : Dv × List Int × Int :=
  if rdGood D p S q N then (⟨D, p + ((rdL D p (mayAt S q.toNat) N).length : Int), S, q + 1⟩, rdL D p (mayAt S q.toNat) N, rdSt D p (mayAt S q.toNat)) else (.zero, [], 5)
theorem rdL_len (D : List Int) (p k N : Int) : (rdL D p k N).length ≤ D.length := by
  unfold rdL
  split
  · simp
  · rw [List.length_take, List.length_drop]; omega
theorem rdGood_iff {D S : List Int} {p q N : Int} : rdGood D p S q N = true ↔ validD D p S q = true ∧ q < 1000 ∧ 1 ≤ N ∧ N ≤ 60 := by simp [rdGood, goodCall, inB, and_assoc]

/-- A device, ints and an int, in new memory, all apart. -/
def Post3 (o : Dv × List Int × Int) (w : World) (e : Ending) (w' : World) : Prop :=
  ∃ A n c A' n' c' A1 n1 c1, e = .returned (.tuple #[.agg #[.slice (A) n c, .int .i64 (o.1.p), .slice (A') n' c', .int .i64 (o.1.q)], .slice A1 n1 c1, .int .i64 o.2.2]) ∧ (n ≤ c ∧ n' ≤ c' ∧ n1 ≤ c1) ∧ Below w.heap.size w w' ∧
    DevIn w' w.heap.size w'.heap.size A n A' n' o.1.d o.1.p o.1.s o.1.q ∧ Ints w' w.heap.size w'.heap.size A1 n1 o.2.1 ∧ Apart A1 n1 A n ∧ Apart A1 n1 A' n' ∧ okInt o.2.2

theorem DevIn.zero (w : World) (lo hi : Nat) : DevIn w lo hi none 0 none 0 [] 0 [] 0 :=
  ⟨(Ints.nil _ _ _ 0 _).1, (Ints.nil _ _ _ 0 _).1, fun h => absurd h (by omega), by unfold okInt; omega, by unfold okInt; omega⟩
theorem Post3.zero {w w' : World} (hb : Below w.heap.size w w') : Post3 (Dv.zero, [], 5) w (.returned (.tuple #[.agg #[.slice none 0 0, .int .i64 0, .slice none 0 0, .int .i64 0], .slice none 0 0, .int .i64 5])) w' :=
  ⟨none, 0, 0, none, 0, 0, none, 0, 0, rfl, ⟨Nat.le_refl _, Nat.le_refl _, Nat.le_refl _⟩, hb, DevIn.zero _ _ _, (Ints.nil _ _ _ 0 _).1, fun h => absurd h (by omega), fun h => absurd h (by omega), by unfold okInt; show _ ≤ (5 : Int) ∧ (5 : Int) ≤ _; omega⟩

set_option maxHeartbeats 1000000 in
theorem canCall_any {A A' : Option Addr} {n c n' c' : Nat} {D S : List Int} {p q : Int} {w : World} {L L' B B' : Nat} (h : Ints w L B A n D) (h' : Ints w L' B' A' n' S) (hB : B ≤ w.heap.size) (hB' : B' ≤ w.heap.size) :
    Calls Try.prog 51 #[.agg #[.slice (A) n c, .int .i64 (p), .slice (A') n' c', .int .i64 (q)]] w (BoolB (goodCall D p S q) w) := by
  have H1 := Lib.hid (h.alloc hB (.cells #[.slice (A) n c, .int .i64 (p), .slice (A') n' c', .int .i64 (q)] 27))
  have H2 := Lib.hid (h'.alloc hB' (.cells #[.slice (A) n c, .int .i64 (p), .slice (A') n' c', .int .i64 (q)] 27))
  have X0 := Lib.hid (Box.new w 27 [.slice (A) n c, .int .i64 (p), .slice (A') n' c', .int .i64 (q)])
  go_enter Try.func51, Try.ntmps51
  go_wp2_with fail
  refine (ValidDevice_any H1.out H2.out (by first | omega | (simp; omega) | (simp; done)) (by first | omega | (simp; omega) | (simp; done))).mono ?_
  rintro e w1 ⟨rfl, hb1⟩
  (try simp only [World.size_alloc, World.size_setCell, World.size_drew] at hb1)
  have HB1 := Lib.hid hb1
  clear hb1
  have X1 := Lib.hid (X0.out.below HB1.out (by omega))
  have x0 := (X1.out.2 0 _ rfl).1; have x1 := (X1.out.2 1 _ rfl).1; have x2 := (X1.out.2 2 _ rfl).1; have x3 := (X1.out.2 3 _ rfl).1
  cases hv : validD D p S q
  · have HV := Lib.hid hv
    clear hv
    go_wp2
    go_ret
    exact ⟨ret_bool (by simp [goodCall, HV.out]), below_step HB1.out (by go_grown) (by first | omega | (simp; omega) | (simp; done))⟩
  · have HV := Lib.hid hv
    clear hv
    go_wp2_with fail
    refine (hasCalls_any (by omega) (by omega)).mono ?_
    rintro e w2 ⟨rfl, hb2⟩
    have HB2 := Lib.hid hb2
    have s1 := HB1.out.size
    (try simp only [World.size_alloc, World.size_setCell, World.size_drew] at s1)
    clear hb2
    go_wp2
    go_ret
    exact ⟨ret_bool (by rw [goodCall, HV.out, Bool.true_and]; exact decide_eq_decide.2 (by omega)), below_step HB2.out (below_step HB1.out (by go_grown) (by first | omega | (simp; omega) | (simp; done))) (by omega)⟩

set_option maxHeartbeats 2000000 in
theorem ReadDevice_any {A A' : Option Addr} {n c n' c' : Nat} {D S : List Int} {p q N : Int} {w : World} {L L' B B' : Nat} (h : Ints w L B A n D) (h' : Ints w L' B' A' n' S) (hB : B ≤ w.heap.size) (hB' : B' ≤ w.heap.size) :
    Calls Try.prog 17 #[.agg #[.slice (A) n c, .int .i64 (p), .slice (A') n' c', .int .i64 (q)], .int .i64 N] w (Post3 (rdOut D p S q N) w) := by
  have HL := Lib.hid h.len
  have HL' := Lib.hid h'.len
  have H1 := Lib.hid (fun o => (h.alloc hB (.cells #[.slice (A) n c, .int .i64 (p), .slice (A') n' c', .int .i64 (q)] 27)).alloc (by first | omega | (simp; omega) | (simp; done)) o)
  have H2 := Lib.hid (fun o => (h'.alloc hB' (.cells #[.slice (A) n c, .int .i64 (p), .slice (A') n' c', .int .i64 (q)] 27)).alloc (by first | omega | (simp; omega) | (simp; done)) o)
  have X0 := Lib.hid ((Box.new w 27 [.slice (A) n c, .int .i64 (p), .slice (A') n' c', .int .i64 (q)]).alloc (.cells #[.slice none 0 0, .int .i64 0, .slice none 0 0, .int .i64 0] 27))
  have R0 := Lib.hid (Box.new (w.alloc (.cells #[.slice (A) n c, .int .i64 (p), .slice (A') n' c', .int .i64 (q)] 27)) 27 [.slice none 0 0, .int .i64 0, .slice none 0 0, .int .i64 0])
  (try simp only [World.size_alloc, World.size_setCell, World.size_drew] at R0)
  cases hg : rdGood D p S q N
  · have HO : Hid (rdOut D p S q N = (.zero, [], 5)) := by show _ = _; simp [rdOut, hg]
    rw [HO.out]
    have HG := Lib.hid hg
    clear hg
    go_enter Try.func17, Try.ntmps17
    go_wp2_with fail
    refine (canCall_any (H1.out _) (H2.out _) (by first | omega | (simp; omega) | (simp; done)) (by first | omega | (simp; omega) | (simp; done))).mono ?_
    rintro e w1 ⟨rfl, hb1⟩
    (try simp only [World.size_alloc, World.size_setCell, World.size_drew] at hb1)
    have HB1 := Lib.hid hb1
    clear hb1
    have X1 := Lib.hid (X0.out.below HB1.out (by omega))
    have R1 := Lib.hid (R0.out.below HB1.out (by omega))
    have x0 := (R1.out.2 0 _ rfl).1; have x1 := (R1.out.2 1 _ rfl).1; have x2 := (R1.out.2 2 _ rfl).1; have x3 := (R1.out.2 3 _ rfl).1
    have f0 := (R1.out.2 0 _ rfl).2; have f1 := (R1.out.2 1 _ rfl).2; have f2 := (R1.out.2 2 _ rfl).2; have f3 := (R1.out.2 3 _ rfl).2
    cases hc : goodCall D p S q
    · go_wp2
      refine bodyPost_ret (v := .tuple #[.agg #[.slice none 0 0, .int .i64 0, .slice none 0 0, .int .i64 0], .slice none 0 0, .int .i64 5]) (by simp [results, Try.results17, go_sem, x0, x1, x2, x3, f0, f1, f2, f3]) rfl (Post3.zero ?_)
      (repeat (with_reducible refine below_set ?_ (by omega) _))
      exact below_step HB1.out (by go_grown) (by first | omega | (simp; omega) | (simp; done))
    · have hn : inB N 1 60 = false := by have := HG.out; simpa [rdGood, hc] using this
      go_wp2_with (go_at_call 48; refine (isIn_any).mono ?_; rintro e w' ⟨rfl, rfl⟩)
      refine bodyPost_ret (v := .tuple #[.agg #[.slice none 0 0, .int .i64 0, .slice none 0 0, .int .i64 0], .slice none 0 0, .int .i64 5]) (by simp [results, Try.results17, go_sem, x0, x1, x2, x3, f0, f1, f2, f3]) rfl (Post3.zero ?_)
      (repeat (with_reducible refine below_set ?_ (by omega) _))
      exact below_step HB1.out (by go_grown) (by first | omega | (simp; omega) | (simp; done))
  · obtain ⟨hv, hq1, hN1, hN2⟩ := rdGood_iff.1 hg
    obtain ⟨hbD, hS12, hSall, ⟨hp0, hp1⟩, hq0, _⟩ := validD_iff.1 hv
    have hn60 : n ≤ 60 := by rw [HL.out]; exact bytesB_le hbD
    have hn12 : n' ≤ 12 := by rw [HL'.out]; exact hS12
    obtain ⟨a, rfl⟩ := Int.eq_ofNat_of_zero_le hq0
    have HO : Hid (rdOut D p S a N = (⟨D, p + ((rdL D p (mayAt S a) N).length : Int), S, (a : Int) + 1⟩, rdL D p (mayAt S a) N, rdSt D p (mayAt S a))) := by show _ = _; simp [rdOut, hg]
    rw [HO.out]
    have hgc : goodCall D p S a = true := by simp [goodCall, hv]; omega
    have hn : inB N 1 60 = true := inB_true hN1 hN2
    have HV := Lib.hid hv
    have HBD := Lib.hid hbD
    have HSA := Lib.hid hSall
    clear hg hv hbD hS12 hSall
    go_enter Try.func17, Try.ntmps17
    go_wp2_with fail
    refine (canCall_any (H1.out _) (H2.out _) (by first | omega | (simp; omega) | (simp; done)) (by first | omega | (simp; omega) | (simp; done))).mono ?_
    rintro e w1 ⟨rfl, hb1⟩
    (try simp only [World.size_alloc, World.size_setCell, World.size_drew] at hb1)
    have HB1 := Lib.hid hb1
    clear hb1
    have s1 := HB1.out.size
    (try simp only [World.size_alloc, World.size_setCell, World.size_drew] at s1)
    have X1 := Lib.hid (X0.out.below HB1.out (by omega))
    have R1 := Lib.hid (R0.out.below HB1.out (by omega))
    have I1 := Lib.hid ((H1.out _).below HB1.out (by omega))
    have I2 := Lib.hid ((H2.out _).below HB1.out (by omega))
    have x0 := (X1.out.2 0 _ rfl).1; have x1 := (X1.out.2 1 _ rfl).1; have x2 := (X1.out.2 2 _ rfl).1; have x3 := (X1.out.2 3 _ rfl).1
    go_wp2_with (first | (go_at_call 48; refine (isIn_any).mono ?_; rintro e w' ⟨rfl, rfl⟩) | fail)
    clear x0 x1 x2 x3
    refine (copyDevice_any I1.out I2.out (by omega) (by omega) (by omega) (by omega) (by unfold okInt; omega) (by unfold okInt; omega)).mono ?_
    rintro e w2 ⟨A2, n2, c2, A2', n2', c2', rfl, ⟨hc2, hc2'⟩, hb2, hd2, hd2', hap, _, _⟩
    have HB2 := Lib.hid hb2
    clear hb2
    have s2 := HB2.out.size
    have HD2 := Lib.hid (hd2.alloc (Nat.le_refl _) (.cells #[.slice (A2) n2 c2, .int .i64 (p), .slice (A2') n2' c2', .int .i64 ((a : Int))] 27))
    have HD2' := Lib.hid (hd2'.alloc (Nat.le_refl _) (.cells #[.slice (A2) n2 c2, .int .i64 (p), .slice (A2') n2' c2', .int .i64 ((a : Int))] 27))
    have HAP := Lib.hid hap
    have Y2 := Lib.hid (Box.new w2 27 [.slice (A2) n2 c2, .int .i64 (p), .slice (A2') n2' c2', .int .i64 ((a : Int))])
    clear hd2 hd2' hap
    go_wp2_with fail
    refine (read_any Y2.out HD2.out HD2'.out (by omega) (by omega) (by first | omega | (simp; omega) | (simp; done)) (by first | omega | (simp; omega) | (simp; done)) hc2 HV.out (by omega) hN1 hN2).mono ?_
    rintro e w3 ⟨A3, n3, c3, rfl, hc3, ht, hi3, hx3⟩
    (try simp only [World.size_alloc, World.size_setCell, World.size_drew] at ht hi3)
    have HT := Lib.hid ht
    have HI3 := Lib.hid hi3
    have HX3 := Lib.hid hx3
    clear ht hi3 hx3
    have s3 := HT.out.size
    (try simp only [World.size_alloc, World.size_setCell, World.size_drew] at s3)
    have D3 := Lib.hid (HD2.out.turn HT.out (by omega) (by omega))
    have D3' := Lib.hid (HD2'.out.turn HT.out (by omega) (by omega))
    have R3 := Lib.hid (((R1.out.below HB2.out (by omega)).alloc (.cells #[.slice (A2) n2 c2, .int .i64 (p), .slice (A2') n2' c2', .int .i64 ((a : Int))] 27)).turn HT.out (by omega) (by omega))
    clear R1
    have y0 := (HX3.out.2 0 _ rfl).1; have y1 := (HX3.out.2 1 _ rfl).1; have y2 := (HX3.out.2 2 _ rfl).1; have y3 := (HX3.out.2 3 _ rfl).1
    have x0 := (R3.out.2 0 _ rfl).1; have x1 := (R3.out.2 1 _ rfl).1; have x2 := (R3.out.2 2 _ rfl).1; have x3 := (R3.out.2 3 _ rfl).1
    have f0 := (R3.out.2 0 _ rfl).2; have f1 := (R3.out.2 1 _ rfl).2; have f2 := (R3.out.2 2 _ rfl).2; have f3 := (R3.out.2 3 _ rfl).2
    go_wp2
    refine bodyPost_ret (v := .tuple #[.agg #[.slice (A2) n2 c2, .int .i64 (p + ((rdL D p (mayAt S a) N).length : Int)), .slice (A2') n2' c2', .int .i64 ((a : Int) + 1)], .slice A3 n3 c3, .int .i64 (rdSt D p (mayAt S a))]) (by simp [results, Try.results17, go_sem, x0, x1, x2, x3, f0, f1, f2, f3]) rfl ?_
    have s2 := HB2.out.size
    refine ⟨_, _, _, _, _, _, _, _, _, rfl, ⟨hc2, hc2', hc3⟩, ?_, ⟨?_, ?_, HAP.out, ?_, ?_⟩, ?_, ?_, ?_, ?_⟩
    · (repeat (with_reducible refine below_set ?_ (by omega) _))
      have e1 : Below w.heap.size w w1 := below_step HB1.out (by go_grown) (by first | omega | (simp; omega) | (simp; done))
      have e2 := (below_step HB2.out e1 (by omega)).alloc (by omega) (.cells #[.slice (A2) n2 c2, .int .i64 (p), .slice (A2') n2' c2', .int .i64 ((a : Int))] 27)
      exact e2.trans (HT.out.below (by omega) (by omega))
    · simp only [World.size_setCell]
      refine Ints.more (lo := w1.heap.size) (hi := w2.heap.size) ?_ (by omega) (by omega)
      (repeat (with_reducible refine Ints.set_ ?_ (by omega) _))
      exact D3.out
    · simp only [World.size_setCell]
      refine Ints.more (lo := w1.heap.size) (hi := w2.heap.size) ?_ (by omega) (by omega)
      (repeat (with_reducible refine Ints.set_ ?_ (by omega) _))
      exact D3'.out
    · have := HD2.out.len
      have := rdL_len D p (mayAt S a) N
      have hb := bytesB_le HBD.out
      unfold okInt
      show _ ≤ p + ((rdL D p (mayAt S a) N).length : Int) ∧ p + ((rdL D p (mayAt S a) N).length : Int) ≤ _
      omega
    · unfold okInt
      show _ ≤ (a : Int) + 1 ∧ (a : Int) + 1 ≤ _
      omega
    · simp only [World.size_setCell]
      refine Ints.more (lo := w2.heap.size + 1) (hi := w3.heap.size) ?_ (by omega) (by omega)
      (repeat (with_reducible refine Ints.set_ ?_ (by omega) _))
      exact HI3.out
    · exact (Apart.of_le D3.out HI3.out (by omega)).symm
    · exact (Apart.of_le D3'.out HI3.out (by omega)).symm
    · unfold okInt
      show _ ≤ rdSt D p (mayAt S a) ∧ rdSt D p (mayAt S a) ≤ _
      unfold rdSt
      repeat' split
      all_goals omega
end Go.Proofs.Ytbphijnhcpcclaa
