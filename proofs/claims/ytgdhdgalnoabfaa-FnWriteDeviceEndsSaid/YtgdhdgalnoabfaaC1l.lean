/- Contract of WriteDevice, the program's. -/
import Derived.Test.YtgdhdgalnoabfaaC1k
namespace Go.Proofs.Ytgdhdgalnoabfaa
open Go.ChangeShapes Go.WideShapes Go.ChangeAt Go.RowKit
set_option linter.unusedSimpArgs false
set_option linter.unusedVariables false

def wrGood (D : List Int) (p : Int) (S : List Int) (q : Int) (L : List Int) : Bool := goodCall D p S q && (decide (1 ≤ L.length) && bytesB L)
/-- What WriteDevice gives. -/
def wrOut (D : List Int) (p : Int) (S : List Int) (q : Int) (L : List Int) : Dv × Int × Int :=
  if wrGood D p S q L then (⟨wrL D p.toNat (L.take (wrM p (mayAt S q.toNat) L.length)), p + (wrM p (mayAt S q.toNat) L.length : Nat), S, q + 1⟩, (wrM p (mayAt S q.toNat) L.length : Nat), wrSt p (mayAt S q.toNat)) else (.zero, 0, 5)
theorem wrGood_iff {D S L : List Int} {p q : Int} : wrGood D p S q L = true ↔ validD D p S q = true ∧ q < 1000 ∧ 1 ≤ L.length ∧ bytesB L = true := by simp [wrGood, goodCall, and_assoc]
theorem wrM_le (p k : Int) (m : Nat) : wrM p k m ≤ m ∧ (0 < wrM p k m → wrM p k m ≤ 60 - p.toNat) := by
  unfold wrM
  split <;> omega

/-- A device and two ints, in new memory. -/
def Post4 (o : Dv × Int × Int) (w : World) (e : Ending) (w' : World) : Prop :=
  ∃ A n c A' n' c', e = .returned (.tuple #[.agg #[.slice (A) n c, .int .i64 (o.1.p), .slice (A') n' c', .int .i64 (o.1.q)], .int .i64 o.2.1, .int .i64 o.2.2]) ∧ (n ≤ c ∧ n' ≤ c') ∧ Below w.heap.size w w' ∧
    DevIn w' w.heap.size w'.heap.size A n A' n' o.1.d o.1.p o.1.s o.1.q ∧ okInt o.2.1 ∧ okInt o.2.2
theorem Post4.zero {w w' : World} (hb : Below w.heap.size w w') : Post4 (Dv.zero, 0, 5) w (.returned (.tuple #[.agg #[.slice none 0 0, .int .i64 0, .slice none 0 0, .int .i64 0], .int .i64 0, .int .i64 5])) w' :=
  ⟨none, 0, 0, none, 0, 0, rfl, ⟨Nat.le_refl _, Nat.le_refl _⟩, hb, DevIn.zero _ _ _, by unfold okInt; show _ ≤ (0 : Int) ∧ (0 : Int) ≤ _; omega, by unfold okInt; show _ ≤ (5 : Int) ∧ (5 : Int) ≤ _; omega⟩

set_option maxHeartbeats 2000000 in
theorem WriteDevice_any {A A' A1 : Option Addr} {n c n' c' n1 c1 : Nat} {D S L1 : List Int} {p q : Int} {w : World} {L L' B B' M C : Nat} (h : Ints w L B A n D) (h' : Ints w L' B' A' n' S) (g : Ints w M C A1 n1 L1) (hB : B ≤ w.heap.size) (hB' : B' ≤ w.heap.size) (hC : C ≤ w.heap.size) (hc1 : n1 ≤ c1) :
    Calls Try.prog 6 #[.agg #[.slice (A) n c, .int .i64 (p), .slice (A') n' c', .int .i64 (q)], .slice A1 n1 c1] w (Post4 (wrOut D p S q L1) w) := by
  have HL := Lib.hid h.len
  have HL' := Lib.hid h'.len
  have HG := Lib.hid g.len
  have hgm := g.max
  have H1 := Lib.hid (fun o => (h.alloc hB (.cells #[.slice (A) n c, .int .i64 (p), .slice (A') n' c', .int .i64 (q)] 25)).alloc (by first | omega | (simp; omega) | (simp; done)) o)
  have H2 := Lib.hid (fun o => (h'.alloc hB' (.cells #[.slice (A) n c, .int .i64 (p), .slice (A') n' c', .int .i64 (q)] 25)).alloc (by first | omega | (simp; omega) | (simp; done)) o)
  have G1 := Lib.hid (fun o => (g.alloc hC (.cells #[.slice (A) n c, .int .i64 (p), .slice (A') n' c', .int .i64 (q)] 25)).alloc (by first | omega | (simp; omega) | (simp; done)) o)
  have X0 := Lib.hid ((Box.new w 25 [.slice (A) n c, .int .i64 (p), .slice (A') n' c', .int .i64 (q)]).alloc (.cells #[.slice none 0 0, .int .i64 0, .slice none 0 0, .int .i64 0] 25))
  have R0 := Lib.hid (Box.new (w.alloc (.cells #[.slice (A) n c, .int .i64 (p), .slice (A') n' c', .int .i64 (q)] 25)) 25 [.slice none 0 0, .int .i64 0, .slice none 0 0, .int .i64 0])
  (try simp only [World.size_alloc, World.size_setCell, World.size_drew] at R0)
  cases hg : wrGood D p S q L1
  · have HO : Hid (wrOut D p S q L1 = (.zero, 0, 5)) := by show _ = _; simp [wrOut, hg]
    rw [HO.out]
    have HGD := Lib.hid hg
    clear hg
    cases hc : goodCall D p S q
    · go_enter Try.func6, Try.ntmps6
      go_wp2_with fail
      refine (canCall_any (H1.out _) (H2.out _) (by first | omega | (simp; omega) | (simp; done)) (by first | omega | (simp; omega) | (simp; done))).mono ?_
      rintro e w1 ⟨rfl, hb1⟩
      rw [hc]
      (try simp only [World.size_alloc, World.size_setCell, World.size_drew] at hb1)
      have HB1 := Lib.hid hb1
      clear hb1
      have R1 := Lib.hid (R0.out.below HB1.out (by omega))
      have x0 := (R1.out.2 0 _ rfl).1; have x1 := (R1.out.2 1 _ rfl).1; have x2 := (R1.out.2 2 _ rfl).1; have x3 := (R1.out.2 3 _ rfl).1
      have f0 := (R1.out.2 0 _ rfl).2; have f1 := (R1.out.2 1 _ rfl).2; have f2 := (R1.out.2 2 _ rfl).2; have f3 := (R1.out.2 3 _ rfl).2
      go_wp2
      refine bodyPost_ret (v := .tuple #[.agg #[.slice none 0 0, .int .i64 0, .slice none 0 0, .int .i64 0], .int .i64 0, .int .i64 5]) (by simp [results, Try.results6, go_sem, x0, x1, x2, x3, f0, f1, f2, f3]) rfl (Post4.zero ?_)
      (repeat (with_reducible refine below_set ?_ (by omega) _))
      exact below_step HB1.out (by go_grown) (by first | omega | (simp; omega) | (simp; done))
    · by_cases hn0 : n1 = 0
      · subst hn0
        go_enter Try.func6, Try.ntmps6
        go_wp2_with fail
        refine (canCall_any (H1.out _) (H2.out _) (by first | omega | (simp; omega) | (simp; done)) (by first | omega | (simp; omega) | (simp; done))).mono ?_
        rintro e w1 ⟨rfl, hb1⟩
        rw [hc]
        (try simp only [World.size_alloc, World.size_setCell, World.size_drew] at hb1)
        have HB1 := Lib.hid hb1
        clear hb1
        have R1 := Lib.hid (R0.out.below HB1.out (by omega))
        have x0 := (R1.out.2 0 _ rfl).1; have x1 := (R1.out.2 1 _ rfl).1; have x2 := (R1.out.2 2 _ rfl).1; have x3 := (R1.out.2 3 _ rfl).1
        have f0 := (R1.out.2 0 _ rfl).2; have f1 := (R1.out.2 1 _ rfl).2; have f2 := (R1.out.2 2 _ rfl).2; have f3 := (R1.out.2 3 _ rfl).2
        go_wp2
        refine bodyPost_ret (v := .tuple #[.agg #[.slice none 0 0, .int .i64 0, .slice none 0 0, .int .i64 0], .int .i64 0, .int .i64 5]) (by simp [results, Try.results6, go_sem, x0, x1, x2, x3, f0, f1, f2, f3]) rfl (Post4.zero ?_)
        (repeat (with_reducible refine below_set ?_ (by omega) _))
        exact below_step HB1.out (by go_grown) (by first | omega | (simp; omega) | (simp; done))
      · have hz : ((n1 : Int) == 0) = false := by simp; omega
        have HBB : Hid (bytesB L1 = false) := by
          show _ = _
          have h1 := HGD.out
          have h2 := HG.out
          unfold wrGood at h1
          rw [hc, Bool.true_and, decide_eq_true (show 1 ≤ L1.length by omega), Bool.true_and] at h1
          exact h1
        go_enter Try.func6, Try.ntmps6
        go_wp2_with fail
        refine (canCall_any (H1.out _) (H2.out _) (by first | omega | (simp; omega) | (simp; done)) (by first | omega | (simp; omega) | (simp; done))).mono ?_
        rintro e w1 ⟨rfl, hb1⟩
        rw [hc]
        (try simp only [World.size_alloc, World.size_setCell, World.size_drew] at hb1)
        have HB1 := Lib.hid hb1
        clear hb1
        have s1 := HB1.out.size
        (try simp only [World.size_alloc, World.size_setCell, World.size_drew] at s1)
        have R1 := Lib.hid (R0.out.below HB1.out (by omega))
        have G2 := Lib.hid ((G1.out _).below HB1.out (by omega))
        go_wp2_with fail
        refine (areBytes_any G2.out).mono ?_
        rintro e w2 ⟨rfl, rfl⟩
        rw [HBB.out]
        have x0 := (R1.out.2 0 _ rfl).1; have x1 := (R1.out.2 1 _ rfl).1; have x2 := (R1.out.2 2 _ rfl).1; have x3 := (R1.out.2 3 _ rfl).1
        have f0 := (R1.out.2 0 _ rfl).2; have f1 := (R1.out.2 1 _ rfl).2; have f2 := (R1.out.2 2 _ rfl).2; have f3 := (R1.out.2 3 _ rfl).2
        go_wp2
        refine bodyPost_ret (v := .tuple #[.agg #[.slice none 0 0, .int .i64 0, .slice none 0 0, .int .i64 0], .int .i64 0, .int .i64 5]) (by simp [results, Try.results6, go_sem, x0, x1, x2, x3, f0, f1, f2, f3]) rfl (Post4.zero ?_)
        (repeat (with_reducible refine below_set ?_ (by omega) _))
        exact below_step HB1.out (by go_grown) (by first | omega | (simp; omega) | (simp; done))
  · obtain ⟨hv, hq1, hL1, hbL⟩ := wrGood_iff.1 hg
    obtain ⟨hbD, hS12, hSall, ⟨hp0, hp1⟩, hq0, _⟩ := validD_iff.1 hv
    have hn60 : n ≤ 60 := by rw [HL.out]; exact bytesB_le hbD
    have hn12 : n' ≤ 12 := by rw [HL'.out]; exact hS12
    have hn1 : 1 ≤ n1 := by rw [HG.out]; exact hL1
    have hn2 : n1 ≤ 60 := by rw [HG.out]; exact bytesB_le hbL
    obtain ⟨a, rfl⟩ := Int.eq_ofNat_of_zero_le hq0
    have HO : Hid (wrOut D p S a L1 = ((⟨wrL D p.toNat (L1.take (wrM p (mayAt S a) L1.length)), p + ((wrM p (mayAt S a) L1.length : Nat) : Int), S, (a : Int) + 1⟩ : Dv), ((wrM p (mayAt S a) L1.length : Nat) : Int), wrSt p (mayAt S a))) := by show _ = _; simp [wrOut, hg]
    rw [HO.out]
    have hgc : goodCall D p S a = true := by simp [goodCall, hv]; omega
    have hz : ((n1 : Int) == 0) = false := by simp; omega
    have HV := Lib.hid hv
    have HBD := Lib.hid hbD
    have HBL := Lib.hid hbL
    have HML := Lib.hid (wrM_le p (mayAt S a) L1.length)
    clear hg hv hbD hS12 hSall hbL
    go_enter Try.func6, Try.ntmps6
    go_wp2_with fail
    refine (canCall_any (H1.out _) (H2.out _) (by first | omega | (simp; omega) | (simp; done)) (by first | omega | (simp; omega) | (simp; done))).mono ?_
    rintro e w1 ⟨rfl, hb1⟩
    rw [hgc]
    (try simp only [World.size_alloc, World.size_setCell, World.size_drew] at hb1)
    have HB1 := Lib.hid hb1
    clear hb1
    have s1 := HB1.out.size
    (try simp only [World.size_alloc, World.size_setCell, World.size_drew] at s1)
    have X1 := Lib.hid (X0.out.below HB1.out (by omega))
    have R1 := Lib.hid (R0.out.below HB1.out (by omega))
    have I1 := Lib.hid ((H1.out _).below HB1.out (by omega))
    have I2 := Lib.hid ((H2.out _).below HB1.out (by omega))
    have G2 := Lib.hid ((G1.out _).below HB1.out (by omega))
    go_wp2_with fail
    refine (areBytes_any G2.out).mono ?_
    rintro e w1' ⟨rfl, rfl⟩
    rw [HBL.out]
    have x0 := (X1.out.2 0 _ rfl).1; have x1 := (X1.out.2 1 _ rfl).1; have x2 := (X1.out.2 2 _ rfl).1; have x3 := (X1.out.2 3 _ rfl).1
    go_wp2_with fail
    clear x0 x1 x2 x3
    refine (copyDevice_any I1.out I2.out (by omega) (by omega) (by omega) (by omega) (by unfold okInt; omega) (by unfold okInt; omega)).mono ?_
    rintro e w2 ⟨A2, n2, c2, A2', n2', c2', rfl, ⟨hc2, hc2'⟩, hb2, hd2, hd2', hap, _, _⟩
    have HB2 := Lib.hid hb2
    have s2 := hb2.size
    have HD2 := Lib.hid (hd2.alloc (Nat.le_refl _) (.cells #[.slice (A2) n2 c2, .int .i64 (p), .slice (A2') n2' c2', .int .i64 ((a : Int))] 25))
    have HD2' := Lib.hid (hd2'.alloc (Nat.le_refl _) (.cells #[.slice (A2) n2 c2, .int .i64 (p), .slice (A2') n2' c2', .int .i64 ((a : Int))] 25))
    have HG2 := Lib.hid ((G2.out.below hb2 (by omega)).alloc (by omega) (.cells #[.slice (A2) n2 c2, .int .i64 (p), .slice (A2') n2' c2', .int .i64 ((a : Int))] 25))
    have Y2 := Lib.hid (Box.new w2 25 [.slice (A2) n2 c2, .int .i64 (p), .slice (A2') n2' c2', .int .i64 ((a : Int))])
    clear hb2 hd2 hd2'
    have HAP := Lib.hid hap
    clear hap
    go_wp2_with fail
    refine (write_any Y2.out HD2.out HD2'.out HG2.out (by omega) (by omega) (by omega) (by first | omega | (simp; omega) | (simp; done)) (by first | omega | (simp; omega) | (simp; done)) (by first | omega | (simp; omega) | (simp; done)) hc2 HV.out (by omega) hn1 hn2 hc1 (by simp; omega)).mono ?_
    rintro e w3 ⟨A3, n3, c3, rfl, hc3, ht, hi3, hx3, hor⟩
    (try simp only [World.size_alloc, World.size_setCell, World.size_drew] at ht hi3 hor)
    have HOR := Lib.hid hor
    clear hor
    have HT := Lib.hid ht
    have HI3 := Lib.hid hi3
    have HX3 := Lib.hid hx3
    clear ht hi3 hx3
    have s3 := HT.out.size
    (try simp only [World.size_alloc, World.size_setCell, World.size_drew] at s3)
    have D3' := Lib.hid (HD2'.out.turn HT.out (by omega) (by omega))
    have R3 := Lib.hid (((R1.out.below HB2.out (by omega)).alloc (.cells #[.slice (A2) n2 c2, .int .i64 (p), .slice (A2') n2' c2', .int .i64 ((a : Int))] 25)).turn HT.out (by omega) (by omega))
    clear R1
    have y0 := (HX3.out.2 0 _ rfl).1; have y1 := (HX3.out.2 1 _ rfl).1; have y2 := (HX3.out.2 2 _ rfl).1; have y3 := (HX3.out.2 3 _ rfl).1
    have x0 := (R3.out.2 0 _ rfl).1; have x1 := (R3.out.2 1 _ rfl).1; have x2 := (R3.out.2 2 _ rfl).1; have x3 := (R3.out.2 3 _ rfl).1
    have f0 := (R3.out.2 0 _ rfl).2; have f1 := (R3.out.2 1 _ rfl).2; have f2 := (R3.out.2 2 _ rfl).2; have f3 := (R3.out.2 3 _ rfl).2
    go_wp2
    refine bodyPost_ret (v := .tuple #[.agg #[.slice (A3) n3 c3, .int .i64 (p + (wrM p (mayAt S a) L1.length : Nat)), .slice (A2') n2' c2', .int .i64 ((a : Int) + 1)], .int .i64 (wrM p (mayAt S a) L1.length : Nat), .int .i64 (wrSt p (mayAt S a))]) (by simp [results, Try.results6, go_sem, x0, x1, x2, x3, f0, f1, f2, f3]) rfl ?_
    have hml := HML.out
    have hp60 := hp1
    refine ⟨_, _, _, _, _, _, rfl, ⟨hc3, hc2'⟩, ?_, ⟨?_, ?_, ?_, ?_, ?_⟩, ?_, ?_⟩
    · (repeat (with_reducible refine below_set ?_ (by omega) _))
      have e1 : Below w.heap.size w w1 := below_step HB1.out (by go_grown) (by first | omega | (simp; omega) | (simp; done))
      have e2 := (below_step HB2.out e1 (by omega)).alloc (by omega) (.cells #[.slice (A2) n2 c2, .int .i64 (p), .slice (A2') n2' c2', .int .i64 ((a : Int))] 25)
      exact e2.trans (HT.out.below (by omega) (by omega))
    · simp only [World.size_setCell]
      refine Ints.more (lo := w1.heap.size) (hi := w3.heap.size) ?_ (by omega) (by omega)
      (repeat (with_reducible refine Ints.set_ ?_ (by omega) _))
      exact HI3.out
    · simp only [World.size_setCell]
      refine Ints.more (lo := w1.heap.size) (hi := w2.heap.size) ?_ (by omega) (by omega)
      (repeat (with_reducible refine Ints.set_ ?_ (by omega) _))
      exact D3'.out
    · rcases HOR.out with ⟨rfl, rfl⟩ | hI
      · exact HAP.out
      · exact (Apart.of_le D3'.out hI (by omega)).symm
    · unfold okInt
      show _ ≤ p + ((wrM p (mayAt S a) L1.length : Nat) : Int) ∧ p + ((wrM p (mayAt S a) L1.length : Nat) : Int) ≤ _
      omega
    · unfold okInt
      show _ ≤ (a : Int) + 1 ∧ (a : Int) + 1 ≤ _
      omega
    · unfold okInt
      show _ ≤ ((wrM p (mayAt S a) L1.length : Nat) : Int) ∧ ((wrM p (mayAt S a) L1.length : Nat) : Int) ≤ _
      omega
    · unfold okInt
      show _ ≤ wrSt p (mayAt S a) ∧ wrSt p (mayAt S a) ≤ _
      unfold wrSt
      repeat' split
      all_goals omega
end Go.Proofs.Ytgdhdgalnoabfaa
