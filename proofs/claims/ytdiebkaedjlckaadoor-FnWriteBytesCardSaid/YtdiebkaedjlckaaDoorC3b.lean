/- Contract of SeenData, the program's. -/
import Derived.Test.YtdiebkaedjlckaaDoorC3a
import Derived.Test.YtdiebkaedjlckaaDoorC1k
import Derived.Deep.RegionHeld3
namespace Go.Proofs.YtdiebkaedjlckaaDoor
open Go.ChangeShapes Go.WideShapes Go.ChangeAt Go.RowKit
set_option linter.unusedSimpArgs false
set_option linter.unusedVariables false

/-- A writer's bytes as if all were written. -/
def seenOut (D : List Int) (p : Int) (S : List Int) (q : Int) (R : List Int) (z : Int) : List Int := if validW D p S q R z then wrL D p.toNat (R.take (60 - p.toNat)) else []
theorem seenOut_le (D : List Int) (p : Int) (S : List Int) (q : Int) (R : List Int) (z : Int) : (seenOut D p S q R z).length ≤ 60 := by
  unfold seenOut
  split
  · obtain ⟨hvd, _⟩ := validW_iff.1 ‹_›
    obtain ⟨hb, _, _, hp, _⟩ := validD_iff.1 hvd
    have h60 := bytesB_le hb
    by_cases h : R.take (60 - p.toNat) = []
    · rw [h]; simpa [wrL] using h60
    · rw [wrL_len (List.length_pos_iff.2 h), List.length_take]; omega
  · simp
set_option maxHeartbeats 2000000 in
theorem SeenData_x {A A' A2 : Option Addr} {n c n' c' n2 c2 : Nat} {D S R : List Int} {p q z : Int} {w : World} {L L' B B' M C : Nat} (h : Ints w L B A n D) (h' : Ints w L' B' A' n' S) (g : Ints w M C A2 n2 R) (hB : B ≤ w.heap.size) (hB' : B' ≤ w.heap.size) (hC : C ≤ w.heap.size) (hc : n ≤ c) (_hc1 : n' ≤ c') (hc2 : n2 ≤ c2) (_hn : n ≤ 1048576) (_hn1 : n' ≤ 1048576) (_hn2 : n2 ≤ 1048576) :
    Calls Tryd.prog 40 #[.agg #[.slice (A) n c, .int .i64 (p), .slice (A') n' c', .int .i64 (q), .slice (A2) n2 c2, .int .i64 (z)]] w (ListPost (seenOut D p S q R z) w) := by
  have HG := Lib.hid g.len
  have HL := Lib.hid h.len
  have HL' := Lib.hid h'.len
  have H1 := Lib.hid (h.alloc hB (.cells #[.slice (A) n c, .int .i64 (p), .slice (A') n' c', .int .i64 (q), .slice (A2) n2 c2, .int .i64 (z)] 30))
  have H2 := Lib.hid (h'.alloc hB' (.cells #[.slice (A) n c, .int .i64 (p), .slice (A') n' c', .int .i64 (q), .slice (A2) n2 c2, .int .i64 (z)] 30))
  have G1 := Lib.hid (g.alloc hC (.cells #[.slice (A) n c, .int .i64 (p), .slice (A') n' c', .int .i64 (q), .slice (A2) n2 c2, .int .i64 (z)] 30))
  have X0 := Lib.hid (Box.new w 30 [.slice (A) n c, .int .i64 (p), .slice (A') n' c', .int .i64 (q), .slice (A2) n2 c2, .int .i64 (z)])
  clear h h' g
  go_enter Tryd.func40, Tryd.ntmps40
  go_wp2_with fail
  refine (ValidWriter_any H1.out H2.out G1.out (by first | omega | (simp; omega) | (simp; done)) (by first | omega | (simp; omega) | (simp; done)) (by first | omega | (simp; omega) | (simp; done)) hc).mono ?_
  rintro e w1 ⟨rfl, hb1⟩
  (try simp only [World.size_alloc, World.size_setCell, World.size_drew] at hb1)
  have E1 : Hid (Below w.heap.size w w1) := below_step hb1 (by go_grown) (by omega)
  have s1 := hb1.size
  (try simp only [World.size_alloc, World.size_setCell, World.size_drew] at s1)
  have X1 := Lib.hid (X0.out.below hb1 (by omega))
  have I1 := Lib.hid (H1.out.below hb1 (by omega))
  have I2 := Lib.hid (H2.out.below hb1 (by omega))
  have G2 := Lib.hid (G1.out.below hb1 (by omega))
  clear hb1 H1 H2 G1 X0
  have x0 := (X1.out.2 0 _ rfl).1; have x1 := (X1.out.2 1 _ rfl).1; have x2 := (X1.out.2 2 _ rfl).1; have x3 := (X1.out.2 3 _ rfl).1; have x4 := (X1.out.2 4 _ rfl).1; have x5 := (X1.out.2 5 _ rfl).1
  cases hv : validW D p S q R z
  · have HO : Hid (seenOut D p S q R z = []) := by show _ = _; simp [seenOut, hv]
    have HV := Lib.hid hv
    clear hv
    go_wp2
    go_ret
    rw [HO.out]
    exact ⟨none, 0, 0, rfl, Nat.le_refl _, E1.out, (Ints.nil _ _ _ 0 _).1⟩
  · obtain ⟨hvd, hz, hRz, _⟩ := validW_iff.1 hv
    obtain ⟨hb, hs12, _, hp, hq⟩ := validD_iff.1 hvd
    have hn60 : n ≤ 60 := by rw [HL.out]; exact bytesB_le hb
    have hn16 : n2 ≤ 16 := by have := HG.out; omega
    obtain ⟨a, rfl⟩ := Int.eq_ofNat_of_zero_le hp.1
    have HO : Hid (seenOut D a S q R z = wrL D a (R.take (waM a R.length))) := by
      show _ = _
      have e : R.take (waM a R.length) = R.take (60 - a) := by
        unfold waM
        rcases Nat.le_total R.length (60 - a) with h | h
        · rw [Nat.min_eq_left h, List.take_of_length_le (Nat.le_refl _), List.take_of_length_le h]
        · rw [Nat.min_eq_right h]
      rw [e]
      simp [seenOut, hv]
    clear hv hvd hb hs12
    go_wp2_with fail
    refine (writtenAt_any (a := a) I1.out G2.out (by first | omega | (simp; omega) | (simp; done)) (by first | omega | (simp; omega) | (simp; done)) (by omega) (by omega) (by omega) (by omega)).mono ?_
    rintro e w2 ⟨A1, n1, c1, rfl, hcc1, hb2, hi2⟩
    have HB2 := Lib.hid hb2
    have HI2 := Lib.hid hi2
    clear hb2 hi2
    go_wp2
    go_ret
    rw [HO.out]
    exact ⟨_, _, _, rfl, hcc1, below_step HB2.out E1.out (by omega), HI2.out.more (by omega) (Nat.le_refl _)⟩
end Go.Proofs.YtdiebkaedjlckaaDoor
