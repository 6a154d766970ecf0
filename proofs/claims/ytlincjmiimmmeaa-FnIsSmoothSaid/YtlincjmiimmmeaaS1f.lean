/- Contract of the model's RestOf; both in the laws' form. -/
import Derived.Test.YtlincjmiimmmeaaS1b
namespace Go.Proofs.Ytlincjmiimmmeaa
open Go.ChangeShapes Go.WideShapes Go.ChangeAt Go.RowKit
set_option linter.unusedSimpArgs false
set_option linter.unusedVariables false

set_option maxHeartbeats 1000000 in
theorem sRestOf0_any {A A' : Option Addr} {n c n' c' a : Nat} {D : List Int} {q : Int} {w : World} {L B : Nat} (h : Ints w L B A n D) (hB : B ≤ w.heap.size) (hnc : n ≤ c) (hn : n ≤ 1048576) :
    Calls Try.prog 50 #[.agg #[.slice (A) n c, .int .i64 ((a : Int)), .slice (A') n' c', .int .i64 (q)]] w (ListPost (D.drop a) w) := by
  have HL := Lib.hid h.len
  have H1 := Lib.hid (h.alloc hB (.cells #[.slice (A) n c, .int .i64 ((a : Int)), .slice (A') n' c', .int .i64 (q)] 25))
  by_cases hlt : a < n
  · have hlti : (a : Int) < (n : Int) := by omega
    go_enter Try.func50, Try.ntmps50
    go_wp2_with fail
    refine (copyInts_any (H1.out.drop (a := a) (by omega)) (by first | omega | (simp; omega) | (simp; done)) (by omega)).mono ?_
    rintro e w1 ⟨A1, n1, c1, rfl, hc1, hb1, hi1⟩
    (try simp only [World.size_alloc, World.size_setCell, World.size_drew] at hb1 hi1)
    have HB1 := Lib.hid hb1
    have HI1 := Lib.hid hi1
    clear hb1 hi1
    go_wp2
    go_ret
    exact ⟨_, _, _, rfl, hc1, below_step HB1.out (by go_grown) (by omega), HI1.out.more (by omega) (Nat.le_refl _)⟩
  · have hlti : (n : Int) ≤ (a : Int) := by omega
    have hz : ((n : Int) ≤ (n : Int)) := by omega
    go_enter Try.func50, Try.ntmps50
    go_wp2_with fail
    all_goals
      try rw [show n - a = 0 from by omega]
      have e0 : D.drop a = [] := List.drop_of_length_le (by have := HL.out; omega)
      refine (copyInts_any (A := _) (n := 0) (xs := []) (L := 0) (B := 0) ((Ints.nil _ _ _ 0 _).1) (by first | omega | (simp; omega) | (simp; done)) (by omega)).mono ?_
      rintro e w1 ⟨A1, n1, c1, rfl, hc1, hb1, hi1⟩
      (try simp only [World.size_alloc, World.size_setCell, World.size_drew] at hb1 hi1)
      have HB1 := Lib.hid hb1
      have HI1 := Lib.hid hi1
      clear hb1 hi1
      have E0 := Lib.hid e0
      clear e0
      go_wp2
      go_ret
      rw [E0.out]
      exact ⟨_, _, _, rfl, hc1, below_step HB1.out (by go_grown) (by omega), HI1.out.more (by omega) (Nat.le_refl _)⟩

set_option maxHeartbeats 1000000 in
theorem SRestOf_any {A A' : Option Addr} {n c n' c' : Nat} {D S : List Int} {p q : Int} {w : World} {L L' B B' : Nat} (h : Ints w L B A n D) (h' : Ints w L' B' A' n' S) (hB : B ≤ w.heap.size) (hB' : B' ≤ w.heap.size) (hnc : n ≤ c) :
    Calls Try.prog 25 #[.agg #[.slice (A) n c, .int .i64 (p), .slice (A') n' c', .int .i64 (q)]] w (ListPost (restL D p S q) w) := by
  have HL := Lib.hid h.len
  have H1 := Lib.hid (h.alloc hB (.cells #[.slice (A) n c, .int .i64 (p), .slice (A') n' c', .int .i64 (q)] 25))
  have H2 := Lib.hid (h'.alloc hB' (.cells #[.slice (A) n c, .int .i64 (p), .slice (A') n' c', .int .i64 (q)] 25))
  have X0 := Lib.hid (Box.new w 25 [.slice (A) n c, .int .i64 (p), .slice (A') n' c', .int .i64 (q)])
  cases hv : validD D p S q
  · have HV := Lib.hid hv
    clear hv
    go_enter Try.func25, Try.ntmps25
    go_wp2_with fail
    refine (validDevice_any H1.out H2.out (by first | omega | (simp; omega) | (simp; done)) (by first | omega | (simp; omega) | (simp; done))).mono ?_
    rintro e w1 ⟨rfl, hb1⟩
    rw [HV.out]
    have HB1 := Lib.hid hb1
    clear hb1
    go_wp2
    go_ret
    have e0 : restL D p S q = [] := by simp [restL, HV.out]
    rw [e0]
    exact ⟨none, 0, 0, rfl, Nat.le_refl _, below_step HB1.out (by go_grown) (by first | omega | (simp; omega) | (simp; done)), (Ints.nil _ _ _ 0 _).1⟩
  · have HV := Lib.hid hv
    obtain ⟨hbD, _, _, ⟨hp0, hp1⟩, _⟩ := validD_iff.1 hv
    have hn60 : n ≤ 60 := by rw [HL.out]; exact bytesB_le hbD
    clear hv hbD
    obtain ⟨a, rfl⟩ := Int.eq_ofNat_of_zero_le hp0
    have HE : Hid (restL D a S q = D.drop a) := by show _ = _; simp [restL, HV.out]
    rw [HE.out]
    go_enter Try.func25, Try.ntmps25
    go_wp2_with fail
    refine (validDevice_any H1.out H2.out (by first | omega | (simp; omega) | (simp; done)) (by first | omega | (simp; omega) | (simp; done))).mono ?_
    rintro e w1 ⟨rfl, hb1⟩
    rw [HV.out]
    (try simp only [World.size_alloc, World.size_setCell, World.size_drew] at hb1)
    have HB1 := Lib.hid hb1
    clear hb1
    have s1 := HB1.out.size
    (try simp only [World.size_alloc, World.size_setCell, World.size_drew] at s1)
    have X1 := Lib.hid (X0.out.below HB1.out (by omega))
    have I1 := Lib.hid (H1.out.below HB1.out (by omega))
    have x0 := (X1.out.2 0 _ rfl).1; have x1 := (X1.out.2 1 _ rfl).1; have x2 := (X1.out.2 2 _ rfl).1; have x3 := (X1.out.2 3 _ rfl).1
    go_wp2_with fail
    refine (sRestOf0_any I1.out (by omega) hnc (by omega)).mono ?_
    rintro e w2 ⟨A1, n1, c1, rfl, hcc, hb2, hi2⟩
    have HB2 := Lib.hid hb2
    have HI2 := Lib.hid hi2
    clear hb2 hi2
    go_wp2
    go_ret
    exact ⟨_, _, _, rfl, hcc, below_step HB2.out (below_step HB1.out (by go_grown) (by omega)) (by omega), HI2.out.more (by omega) (Nat.le_refl _)⟩
theorem restL_le (D : List Int) (p : Int) (S : List Int) (q : Int) : (restL D p S q).length ≤ 60 := by
  unfold restL
  split
  · obtain ⟨hb, _⟩ := validD_iff.1 ‹_›
    have := bytesB_le hb
    rw [List.length_drop]; omega
  · decide

theorem SRestOf_x {A A' : Option Addr} {n c n' c' : Nat} {D S : List Int} {p q : Int} {w : World} {L L' B B' : Nat} (h : Ints w L B A n D) (h' : Ints w L' B' A' n' S) (hB : B ≤ w.heap.size) (hB' : B' ≤ w.heap.size) (hc : n ≤ c) (_hc' : n' ≤ c') (_hn : n ≤ 1048576) (_hn' : n' ≤ 1048576) :
    Calls Try.prog 25 #[.agg #[.slice (A) n c, .int .i64 (p), .slice (A') n' c', .int .i64 (q)]] w (ListPost (restL D p S q) w) := SRestOf_any h h' hB hB' hc
theorem RestOf_x {A A' : Option Addr} {n c n' c' : Nat} {D S : List Int} {p q : Int} {w : World} {L L' B B' : Nat} (h : Ints w L B A n D) (h' : Ints w L' B' A' n' S) (hB : B ≤ w.heap.size) (hB' : B' ≤ w.heap.size) (hc : n ≤ c) (_hc' : n' ≤ c') (_hn : n ≤ 1048576) (_hn' : n' ≤ 1048576) :
    Calls Try.prog 18 #[.agg #[.slice (A) n c, .int .i64 (p), .slice (A') n' c', .int .i64 (q)]] w (ListPost (restL D p S q) w) := RestOf_any h h' hB hB' hc
end Go.Proofs.Ytlincjmiimmmeaa
