/- Contract of SeenData, the model's. -/
import Derived.Test.YtdgfcbnfhengiaaC3b
import Derived.Test.YtdgfcbnfhengiaaS3a
import Derived.Test.YtdgfcbnfhengiaaS1k
namespace Go.Proofs.Ytdgfcbnfhengiaa
open Go.ChangeShapes Go.WideShapes Go.ChangeAt Go.RowKit
set_option linter.unusedSimpArgs false
set_option linter.unusedVariables false

set_option maxHeartbeats 2000000 in
theorem overlaid_none {A A1 : Option Addr} {n c c1 a : Nat} {D : List Int} {w : World} {L B : Nat} (h : Ints w L B A n D) (hB : B ≤ w.heap.size) (hn : n ≤ 1000) :
    Calls Try.prog 18 #[.slice A n c, .int .i64 (a : Int), .slice A1 0 c1] w (ListPost D w) := by
  go_enter Try.func18, Try.ntmps18
  go_wp2_with fail
  refine (copyInts_any h hB (by omega)).mono ?_
  rintro e w1 ⟨A0, n0, c0, rfl, hc0, hb, hi⟩
  have HB := Lib.hid hb
  have HI := Lib.hid hi
  clear hb hi h
  go_wp2
  go_loopw [7] (fun o wr => o = .slice A0 n0 c0 ∧ wr = w1) (fun _ _ => 0)
  case atStart => exact ⟨rfl, rfl⟩
  case round =>
    obtain ⟨rfl, rfl⟩ := hrel
    by_cases hlt : (n0 : Int) < (a : Int)
    all_goals
      go_wp2
      go_loopw [7, 8] (fun o i wt => o = .slice A0 n0 c0 ∧ i = .int .i64 0 ∧ wt = wr) (fun _ _ _ => 0)
      case atStart => exact ⟨rfl, rfl, rfl⟩
      case round =>
        obtain ⟨rfl, rfl, rfl⟩ := hrel
        go_wp2
        go_ret
        exact ⟨_, _, _, rfl, hc0, HB.out, HI.out⟩
set_option maxHeartbeats 2000000 in
theorem SSeenData_x {A A' A2 : Option Addr} {n c n' c' n2 c2 : Nat} {D S R : List Int} {p q z : Int} {w : World} {L L' B B' M C : Nat} (h : Ints w L B A n D) (h' : Ints w L' B' A' n' S) (g : Ints w M C A2 n2 R) (hB : B ≤ w.heap.size) (hB' : B' ≤ w.heap.size) (hC : C ≤ w.heap.size) (hc : n ≤ c) (_hc1 : n' ≤ c') (hc2 : n2 ≤ c2) (_hn : n ≤ 1048576) (_hn1 : n' ≤ 1048576) (_hn2 : n2 ≤ 1048576) :
    Calls Try.prog 11 #[.agg #[.slice (A) n c, .int .i64 (p), .slice (A') n' c', .int .i64 (q), .slice (A2) n2 c2, .int .i64 (z)]] w (ListPost (seenOut D p S q R z) w) := by
  have HG := Lib.hid g.len
  have HL := Lib.hid h.len
  have HL' := Lib.hid h'.len
  have H1 := Lib.hid (h.alloc hB (.cells #[.slice (A) n c, .int .i64 (p), .slice (A') n' c', .int .i64 (q), .slice (A2) n2 c2, .int .i64 (z)] 27))
  have H2 := Lib.hid (h'.alloc hB' (.cells #[.slice (A) n c, .int .i64 (p), .slice (A') n' c', .int .i64 (q), .slice (A2) n2 c2, .int .i64 (z)] 27))
  have G1 := Lib.hid (g.alloc hC (.cells #[.slice (A) n c, .int .i64 (p), .slice (A') n' c', .int .i64 (q), .slice (A2) n2 c2, .int .i64 (z)] 27))
  have X0 := Lib.hid (Box.new w 27 [.slice (A) n c, .int .i64 (p), .slice (A') n' c', .int .i64 (q), .slice (A2) n2 c2, .int .i64 (z)])
  clear h h' g
  go_enter Try.func11, Try.ntmps11
  go_wp2_with fail
  refine (sValidWriter0_any H1.out H2.out G1.out (by first | omega | (simp; omega) | (simp; done)) (by first | omega | (simp; omega) | (simp; done)) (by first | omega | (simp; omega) | (simp; done))).mono ?_
  rintro e w1 ⟨rfl, hb1⟩
  (try simp only [World.size_alloc, World.size_setCell, World.size_drew] at hb1)
  have E1 : Hid (Below w.heap.size w w1) := below_step hb1 (by go_grown) (by omega)
  have s1 := hb1.size
  (try simp only [World.size_alloc, World.size_setCell, World.size_drew] at s1)
  have X1 := Lib.hid (X0.out.below hb1 (by omega))
  have I1 := Lib.hid (H1.out.below hb1 (by omega))
  have I2 := Lib.hid (H2.out.below hb1 (by omega))
  have G2 := Lib.hid (G1.out.below hb1 (by omega))
  clear hb1 H1 H2 G1 X0
  have x0 := (X1.out.2 0 _ rfl).1; have x1 := (X1.out.2 1 _ rfl).1; have x2 := (X1.out.2 2 _ rfl).1; have x3 := (X1.out.2 3 _ rfl).1; have x4 := (X1.out.2 4 _ rfl).1; have x5 := (X1.out.2 5 _ rfl).1
  cases hv : validW D p S q R z
  · have HO : Hid (seenOut D p S q R z = []) := by show _ = _; simp [seenOut, hv]
    have HV := Lib.hid hv
    clear hv
    go_wp2
    go_ret
    rw [HO.out]
    exact ⟨none, 0, 0, rfl, Nat.le_refl _, E1.out, (Ints.nil _ _ _ 0 _).1⟩
  · obtain ⟨hvd, hz, hRz, _⟩ := validW_iff.1 hv
    obtain ⟨hb, hs12, _, hp, hq⟩ := validD_iff.1 hvd
    have hn60 : n ≤ 60 := by rw [HL.out]; exact bytesB_le hb
    have hn16 : n2 ≤ 16 := by have := HG.out; omega
    obtain ⟨a, rfl⟩ := Int.eq_ofNat_of_zero_le hp.1
    have HO : Hid (seenOut D a S q R z = wrL D a (R.take (60 - a))) := by show _ = _; simp [seenOut, hv]
    clear hv hvd hb hs12
    obtain ⟨r, hr⟩ : ∃ r : Nat, r = 60 - a := ⟨_, rfl⟩
    have hw : IntKind.i64.wrap (60 - (a : Int)) = (r : Int) := by rw [IntWalk.i64_in _ (by omega)]; omega
    have HR := Lib.hid hr
    clear hr
    by_cases h0 : n2 = 0 ∨ r = 0
    · have HE : Hid (wrL D a (R.take (60 - a)) = D) := by
        show _ = _
        have e : R.take (60 - a) = [] := by
          rw [← HR.out]
          rcases h0 with h | h
          · have e0 : R = [] := List.eq_nil_of_length_eq_zero (by rw [← HG.out]; exact h)
            rw [e0]; simp
          · rw [h]; simp
        rw [e]; simp [wrL]
      rw [HE.out] at HO
      by_cases hlt : (r : Int) < (n2 : Int)
      · obtain rfl : r = 0 := by omega
        have hltN : 0 < n2 := by omega
        have hltI : (0 : Int) < (n2 : Int) := by omega
        have hcI : (0 : Int) ≤ (c2 : Int) := by omega
        clear h0
        go_wp2_with fail
        go_region_held3 (fun w' => w'.cell? ⟨w.heap.size, 0, none⟩ = some (.slice A n c) ∧ w'.cell? ⟨w.heap.size, 1, none⟩ = some (.int .i64 (a : Int)) ∧ w'.cell? ⟨w.heap.size, 4, none⟩ = some (.slice A2 n2 c2)) (go_keep)
          ((go_at_call 18; refine (overlaid_none (a := a) (c1 := c2) I1.out.drew (by first | omega | (simp; omega) | (simp; done)) (by omega)).mono ?_; rintro e w2 ⟨A1, n1, c1, rfl, hcc1, hb2, hi2⟩; (try simp only [World.size_alloc, World.size_setCell, World.size_drew] at hb2 hi2); have HB2 := Lib.hid hb2; have HI2 := Lib.hid hi2; have X2 := Lib.hid (X1.out.drew.below hb2 (by omega)); clear hb2 hi2; clear x0 x1 x2 x3 x4 x5; have x0 := (X2.out.2 0 _ rfl).1; have x1 := (X2.out.2 1 _ rfl).1; have x2 := (X2.out.2 2 _ rfl).1; have x3 := (X2.out.2 3 _ rfl).1; have x4 := (X2.out.2 4 _ rfl).1; have x5 := (X2.out.2 5 _ rfl).1))
        all_goals
          go_wp2
          go_ret
          rw [HO.out]
          exact ⟨_, _, _, rfl, hcc1, below_step HB2.out E1.out.drew (by first | omega | (simp; omega) | (simp; done)), HI2.out.more (by omega) (Nat.le_refl _)⟩
      · obtain rfl : n2 = 0 := by omega
        have hlt2 : ¬ (r : Int) < 0 := by omega
        have hgeI : (0 : Int) ≤ (r : Int) := by omega
        have hmin : (if (r : Int) < 0 then (r : Int) else 0) = 0 := if_neg (by omega)
        have hnN : ¬ r < 0 := by omega
        have hcI : (0 : Int) ≤ (c2 : Int) := by omega
        clear h0
        go_wp2_with fail
        go_region_held3 (fun w' => w'.cell? ⟨w.heap.size, 0, none⟩ = some (.slice A n c) ∧ w'.cell? ⟨w.heap.size, 1, none⟩ = some (.int .i64 (a : Int)) ∧ w'.cell? ⟨w.heap.size, 4, none⟩ = some (.slice A2 0 c2)) (go_keep)
          ((go_at_call 18; refine (overlaid_none (a := a) (c1 := c2) I1.out.drew (by first | omega | (simp; omega) | (simp; done)) (by omega)).mono ?_; rintro e w2 ⟨A1, n1, c1, rfl, hcc1, hb2, hi2⟩; (try simp only [World.size_alloc, World.size_setCell, World.size_drew] at hb2 hi2); have HB2 := Lib.hid hb2; have HI2 := Lib.hid hi2; have X2 := Lib.hid (X1.out.drew.below hb2 (by omega)); clear hb2 hi2; clear x0 x1 x2 x3 x4 x5; have x0 := (X2.out.2 0 _ rfl).1; have x1 := (X2.out.2 1 _ rfl).1; have x2 := (X2.out.2 2 _ rfl).1; have x3 := (X2.out.2 3 _ rfl).1; have x4 := (X2.out.2 4 _ rfl).1; have x5 := (X2.out.2 5 _ rfl).1))
        all_goals
          go_wp2
          go_ret
          rw [HO.out]
          exact ⟨_, _, _, rfl, hcc1, below_step HB2.out E1.out.drew (by first | omega | (simp; omega) | (simp; done)), HI2.out.more (by omega) (Nat.le_refl _)⟩
    · by_cases hlt : (r : Int) < (n2 : Int)
      · have hz0 : ((r : Int) == 0) = false := by simp; omega
        have hrc : (r : Int) ≤ (c2 : Int) := by omega
        have hr0 : (0 : Int) ≤ (r : Int) := by omega
        have hk : r ≤ n2 := by omega
        have hltN : r < n2 := by omega
        have hk1 : 1 ≤ r := by omega
        have HT : Hid (R.take (60 - a) = R.take r) := by show _ = _; rw [← HR.out]
        clear h0
        go_wp2_with fail
        go_region_held3 (fun w' => w'.cell? ⟨w.heap.size, 0, none⟩ = some (.slice A n c) ∧ w'.cell? ⟨w.heap.size, 1, none⟩ = some (.int .i64 (a : Int)) ∧ w'.cell? ⟨w.heap.size, 4, none⟩ = some (.slice A2 n2 c2)) (go_keep)
          ((go_at_call 18; refine (overlaid_any (a := a) I1.out.drew (G2.out.drew.take hk) (by first | omega | (simp; omega) | (simp; done)) (by first | omega | (simp; omega) | (simp; done)) (by omega) (by omega) hk1 (by omega)).mono ?_; rintro e w2 ⟨A1, n1, c1, rfl, hcc1, hb2, hi2⟩; (try simp only [World.size_alloc, World.size_setCell, World.size_drew] at hb2 hi2); have HB2 := Lib.hid hb2; have HI2 := Lib.hid hi2; have X2 := Lib.hid (X1.out.drew.below hb2 (by omega)); clear hb2 hi2; clear x0 x1 x2 x3 x4 x5; have x0 := (X2.out.2 0 _ rfl).1; have x1 := (X2.out.2 1 _ rfl).1; have x2 := (X2.out.2 2 _ rfl).1; have x3 := (X2.out.2 3 _ rfl).1; have x4 := (X2.out.2 4 _ rfl).1; have x5 := (X2.out.2 5 _ rfl).1))
        all_goals
          go_wp2
          go_ret
          rw [HO.out, HT.out]
          exact ⟨_, _, _, rfl, hcc1, below_step HB2.out E1.out.drew (by first | omega | (simp; omega) | (simp; done)), HI2.out.more (by omega) (Nat.le_refl _)⟩
      · have hz0 : ((n2 : Int) == 0) = false := by simp; omega
        have hrc : (n2 : Int) ≤ (c2 : Int) := by omega
        have hr0 : (0 : Int) ≤ (n2 : Int) := by omega
        have hk : n2 ≤ n2 := by omega
        have hgeI : (n2 : Int) ≤ (r : Int) := by omega
        have hgeN : n2 ≤ r := by omega
        have hnN : ¬ r < n2 := by omega
        have hmin : (if (r : Int) < (n2 : Int) then (r : Int) else (n2 : Int)) = (n2 : Int) := if_neg (by omega)
        have hk1 : 1 ≤ n2 := by omega
        have HT : Hid (R.take (60 - a) = R.take n2) := by
          show _ = _
          have := HG.out
          rw [List.take_of_length_le (show R.length ≤ n2 by omega), List.take_of_length_le (by have := HR.out; omega)]
        clear h0
        go_wp2_with fail
        go_region_held3 (fun w' => w'.cell? ⟨w.heap.size, 0, none⟩ = some (.slice A n c) ∧ w'.cell? ⟨w.heap.size, 1, none⟩ = some (.int .i64 (a : Int)) ∧ w'.cell? ⟨w.heap.size, 4, none⟩ = some (.slice A2 n2 c2)) (go_keep)
          ((go_at_call 18; refine (overlaid_any (a := a) I1.out.drew (G2.out.drew.take hk) (by first | omega | (simp; omega) | (simp; done)) (by first | omega | (simp; omega) | (simp; done)) (by omega) (by omega) hk1 (by omega)).mono ?_; rintro e w2 ⟨A1, n1, c1, rfl, hcc1, hb2, hi2⟩; (try simp only [World.size_alloc, World.size_setCell, World.size_drew] at hb2 hi2); have HB2 := Lib.hid hb2; have HI2 := Lib.hid hi2; have X2 := Lib.hid (X1.out.drew.below hb2 (by omega)); clear hb2 hi2; clear x0 x1 x2 x3 x4 x5; have x0 := (X2.out.2 0 _ rfl).1; have x1 := (X2.out.2 1 _ rfl).1; have x2 := (X2.out.2 2 _ rfl).1; have x3 := (X2.out.2 3 _ rfl).1; have x4 := (X2.out.2 4 _ rfl).1; have x5 := (X2.out.2 5 _ rfl).1))
        all_goals
          go_wp2
          go_ret
          rw [HO.out, HT.out]
          exact ⟨_, _, _, rfl, hcc1, below_step HB2.out E1.out.drew (by first | omega | (simp; omega) | (simp; done)), HI2.out.more (by omega) (Nat.le_refl _)⟩
end Go.Proofs.Ytdgfcbnfhengiaa
