/- Contracts of the writers, the program's: what is valid; a writer at work; NewWriter, TellWriter, RoomOf. -/
import Derived.Test.YtdiebkaedjlckaaDoorC2c
import Derived.Test.YtdiebkaedjlckaaDoorS1a
namespace Go.Proofs.YtdiebkaedjlckaaDoor
open Go.ChangeShapes Go.WideShapes Go.ChangeAt Go.RowKit
set_option linter.unusedSimpArgs false
set_option linter.unusedVariables false

/-- A writer's numbers are valid. -/
def validW (D : List Int) (p : Int) (S : List Int) (q : Int) (R : List Int) (z : Int) : Bool := validD D p S q && (inB z 1 16 && (decide ((R.length : Int) ≤ z) && allB R 0 255))
theorem validW_iff {D S R : List Int} {p q z : Int} : validW D p S q R z = true ↔ validD D p S q = true ∧ (1 ≤ z ∧ z ≤ 16) ∧ (R.length : Int) ≤ z ∧ allB R 0 255 = true := by simp [validW, inB, and_assoc]
set_option maxHeartbeats 1000000 in
theorem ValidWriter_any {A A' A2 : Option Addr} {n c n' c' n2 c2 : Nat} {D S R : List Int} {p q z : Int} {w : World} {L L' B B' M C : Nat} (h : Ints w L B A n D) (h' : Ints w L' B' A' n' S) (g : Ints w M C A2 n2 R) (hB : B ≤ w.heap.size) (hB' : B' ≤ w.heap.size) (hC : C ≤ w.heap.size) (_hnc : n ≤ c) :
    Calls Tryd.prog 42 #[.agg #[.slice (A) n c, .int .i64 (p), .slice (A') n' c', .int .i64 (q), .slice (A2) n2 c2, .int .i64 (z)]] w (BoolB (validW D p S q R z) w) := by
  have HG := Lib.hid g.len
  have HL := Lib.hid h.len
  have HL' := Lib.hid h'.len
  have H1 := Lib.hid (h.alloc hB (.cells #[.slice (A) n c, .int .i64 (p), .slice (A') n' c', .int .i64 (q), .slice (A2) n2 c2, .int .i64 (z)] 30))
  have H2 := Lib.hid (h'.alloc hB' (.cells #[.slice (A) n c, .int .i64 (p), .slice (A') n' c', .int .i64 (q), .slice (A2) n2 c2, .int .i64 (z)] 30))
  have G1 := Lib.hid (g.alloc hC (.cells #[.slice (A) n c, .int .i64 (p), .slice (A') n' c', .int .i64 (q), .slice (A2) n2 c2, .int .i64 (z)] 30))
  have X0 := Lib.hid (Box.new w 30 [.slice (A) n c, .int .i64 (p), .slice (A') n' c', .int .i64 (q), .slice (A2) n2 c2, .int .i64 (z)])
  clear h h' g
  go_enter Tryd.func42, Tryd.ntmps42
  go_wp2_with fail
  refine (ValidDevice_any H1.out H2.out (by first | omega | (simp; omega) | (simp; done)) (by first | omega | (simp; omega) | (simp; done))).mono ?_
  rintro e w1 ⟨rfl, hb1⟩
  (try simp only [World.size_alloc, World.size_setCell, World.size_drew] at hb1)
  have E1 : Hid (Below w.heap.size w w1) := below_step hb1 (by go_grown) (by omega)
  have s1 := hb1.size
  (try simp only [World.size_alloc, World.size_setCell, World.size_drew] at s1)
  have X1 := Lib.hid (X0.out.below hb1 (by omega))
  have I1 := Lib.hid (H1.out.below hb1 (by omega))
  have I2 := Lib.hid (H2.out.below hb1 (by omega))
  have G2 := Lib.hid (G1.out.below hb1 (by omega))
  clear hb1 H1 H2 G1 X0
  have x0 := (X1.out.2 0 _ rfl).1; have x1 := (X1.out.2 1 _ rfl).1; have x2 := (X1.out.2 2 _ rfl).1; have x3 := (X1.out.2 3 _ rfl).1; have x4 := (X1.out.2 4 _ rfl).1; have x5 := (X1.out.2 5 _ rfl).1
  cases hv : validD D p S q
  · have HV := Lib.hid hv
    clear hv
    go_wp2
    go_ret
    exact ⟨ret_bool (by simp [validW, HV.out]), E1.out⟩
  · have HV := Lib.hid hv
    clear hv
    cases hz : inB z 1 16
    · go_wp2_with (go_at_call 64; refine (isIn_any).mono ?_; rintro e w' ⟨rfl, rfl⟩)
      go_ret
      exact ⟨ret_bool (by simp [validW, HV.out, hz]), E1.out⟩
    · have hz1 := inB_iff.1 hz
      by_cases hl : (n2 : Int) ≤ z
      · have HE : Hid (validW D p S q R z = allB R 0 255) := by
          show _ = _
          have := HG.out
          simp [validW, HV.out, hz]
          omega
        have HE2 : Hid (bytesB R = allB R 0 255) := by
          show _ = _
          have := HG.out
          simp [bytesB]
          omega
        go_wp2_with (first | (go_at_call 64; refine (isIn_any).mono ?_; rintro e w' ⟨rfl, rfl⟩) | fail)
        refine (areBytes_any G2.out).mono ?_
        rintro e w2 ⟨rfl, rfl⟩
        rw [HE2.out]
        go_wp2
        go_ret
        exact ⟨ret_bool HE.out.symm, E1.out⟩
      · have hl2 : z < (n2 : Int) := by omega
        go_wp2_with (go_at_call 64; refine (isIn_any).mono ?_; rintro e w' ⟨rfl, rfl⟩)
        go_ret
        exact ⟨ret_bool (by have := HG.out; simp [validW, HV.out, hz]; omega), E1.out⟩

set_option maxHeartbeats 2000000 in
theorem backlogOf_any {A A' A2 : Option Addr} {n c n' c' n2 c2 : Nat} {D S R : List Int} {p q z : Int} {w : World} {L L' B B' M C : Nat} (h : Ints w L B A n D) (h' : Ints w L' B' A' n' S) (g : Ints w M C A2 n2 R) (hB : B ≤ w.heap.size) (hB' : B' ≤ w.heap.size) (hC : C ≤ w.heap.size)
    (hn : n ≤ 1048576) (hn' : n' ≤ 1048576) (hn2 : n2 ≤ 1048576) (hp : okInt p) (hq : okInt q) :
    Calls Tryd.prog 91 #[.agg #[.slice (A) n c, .int .i64 (p), .slice (A') n' c', .int .i64 (q), .slice (A2) n2 c2, .int .i64 (z)]] w (LookPost D p S q R z w) := by
  have H1 := Lib.hid (h.alloc hB (.cells #[.slice (A) n c, .int .i64 (p), .slice (A') n' c', .int .i64 (q), .slice (A2) n2 c2, .int .i64 (z)] 30))
  have H2 := Lib.hid (h'.alloc hB' (.cells #[.slice (A) n c, .int .i64 (p), .slice (A') n' c', .int .i64 (q), .slice (A2) n2 c2, .int .i64 (z)] 30))
  have G1 := Lib.hid (g.alloc hC (.cells #[.slice (A) n c, .int .i64 (p), .slice (A') n' c', .int .i64 (q), .slice (A2) n2 c2, .int .i64 (z)] 30))
  have X0 := Lib.hid (Box.new w 30 [.slice (A) n c, .int .i64 (p), .slice (A') n' c', .int .i64 (q), .slice (A2) n2 c2, .int .i64 (z)])
  clear h h' g
  go_enter Tryd.func91, Tryd.ntmps91
  go_wp2_with fail
  have x0 := (X0.out.2 0 _ rfl).1; have x1 := (X0.out.2 1 _ rfl).1; have x2 := (X0.out.2 2 _ rfl).1; have x3 := (X0.out.2 3 _ rfl).1; have x4 := (X0.out.2 4 _ rfl).1; have x5 := (X0.out.2 5 _ rfl).1
  go_region_held3 (fun w' => w'.cell? ⟨w.heap.size, 0, none⟩ = some (.slice A n c) ∧ w'.cell? ⟨w.heap.size, 1, none⟩ = some (.int .i64 p) ∧ w'.cell? ⟨w.heap.size, 2, none⟩ = some (.slice A' n' c') ∧ w'.cell? ⟨w.heap.size, 3, none⟩ = some (.int .i64 q) ∧ w'.cell? ⟨w.heap.size, 4, none⟩ = some (.slice A2 n2 c2) ∧ w'.cell? ⟨w.heap.size, 5, none⟩ = some (.int .i64 z)) (go_keep)
    (first | (go_at_call 99; refine (copyDevice_any H1.out.drew H2.out.drew (by first | omega | (simp; omega) | (simp; done)) (by first | omega | (simp; omega) | (simp; done)) hn hn' hp hq).mono ?_; rintro e w1 ⟨A3, n3, c3, A3', n3', c3', rfl, ⟨hc3, hc3'⟩, hb1, hd, hd', ha, _, _⟩; (try simp only [World.size_alloc, World.size_setCell, World.size_drew] at hb1 hd hd'); have HB1 := Lib.hid hb1; have D1 := Lib.hid hd; have D1' := Lib.hid hd'; have HA := Lib.hid ha; have s1 := hb1.size; (try simp only [World.size_alloc, World.size_setCell, World.size_drew] at s1); have X1 := Lib.hid (X0.out.drew.below hb1 (by omega)); have G2 := Lib.hid (G1.out.drew.below hb1 (by first | omega | (simp; omega) | (simp; done))); clear hb1 hd hd' ha; have x0 := (X1.out.2 0 _ rfl).1; have x1 := (X1.out.2 1 _ rfl).1; have x2 := (X1.out.2 2 _ rfl).1; have x3 := (X1.out.2 3 _ rfl).1; have x4 := (X1.out.2 4 _ rfl).1; have x5 := (X1.out.2 5 _ rfl).1) | (go_at_call 100; refine (copyList_any G2.out (by omega) hn2).mono ?_; rintro e w2 ⟨A4, n4, c4, rfl, hc4, hb2, hi2⟩; (try simp only [World.size_alloc, World.size_setCell, World.size_drew] at hb2 hi2); have HB2 := Lib.hid hb2; have HI2 := Lib.hid hi2; have s2 := hb2.size; have X2 := Lib.hid (X1.out.below hb2 (by omega)); clear hb2 hi2; have x0 := (X2.out.2 0 _ rfl).1; have x1 := (X2.out.2 1 _ rfl).1; have x2 := (X2.out.2 2 _ rfl).1; have x3 := (X2.out.2 3 _ rfl).1; have x4 := (X2.out.2 4 _ rfl).1; have x5 := (X2.out.2 5 _ rfl).1))
  go_wp2
  go_ret
  have D2 := Lib.hid (D1.out.below HB2.out (by omega))
  have D2' := Lib.hid (D1'.out.below HB2.out (by omega))
  have e1 : Below w.heap.size w w1 := below_step HB1.out ((by go_grown : Below w.heap.size w (w.alloc _)).drew) (by omega)
  have e2 : Below w.heap.size w w2 := below_step HB2.out e1 (by omega)
  refine ⟨w2.heap.size, _, _, _, _, _, _, _, _, _, rfl, ⟨hc3, hc3', hc4⟩, e2.alloc (by omega) _, by omega, Box.new w2 _ [.slice (A3) n3 c3, .int .i64 (p), .slice (A3') n3' c3', .int .i64 (q), .slice (A4) n4 c4, .int .i64 (z)], ?_, ?_, ?_, HA.out, (Apart.of_le D2.out HI2.out (by omega)).symm, (Apart.of_le D2'.out HI2.out (by omega)).symm⟩
  · exact (D2.out.alloc (by omega) _).more (by omega) (by omega)
  · exact (D2'.out.alloc (by omega) _).more (by omega) (by omega)
  · exact (HI2.out.alloc (by omega) _).more (by omega) (by omega)

set_option maxHeartbeats 1000000 in
theorem writer_any {A A' A2 : Option Addr} {n c n' c' n2 c2 b : Nat} {p q z : Int} {w : World} (hX : Box w b [.slice (A) n c, .int .i64 (p), .slice (A') n' c', .int .i64 (q), .slice (A2) n2 c2, .int .i64 (z)]) :
    Calls Tryd.prog 93 #[.pointer (some ⟨b, 0, none⟩)] w (fun e w' => e = .returned (.agg #[.slice (A) n c, .int .i64 (p), .slice (A') n' c', .int .i64 (q), .slice (A2) n2 c2, .int .i64 (z)]) ∧ Below w.heap.size w w') := by
  have hlt := hX.lt
  have hne1 : b ≠ w.heap.size := by omega
  have HX := Lib.hid (hX.alloc (.cells #[.slice none 0 0, .int .i64 0, .slice none 0 0, .int .i64 0, .slice none 0 0, .int .i64 0] 30))
  have R0 := Lib.hid (Box.new w 30 [.slice none 0 0, .int .i64 0, .slice none 0 0, .int .i64 0, .slice none 0 0, .int .i64 0])
  have x0 := (HX.out.2 0 _ rfl).1; have x1 := (HX.out.2 1 _ rfl).1; have x2 := (HX.out.2 2 _ rfl).1; have x3 := (HX.out.2 3 _ rfl).1; have x4 := (HX.out.2 4 _ rfl).1; have x5 := (HX.out.2 5 _ rfl).1
  have r0 := (R0.out.2 0 _ rfl).1; have r1 := (R0.out.2 1 _ rfl).1; have r2 := (R0.out.2 2 _ rfl).1; have r3 := (R0.out.2 3 _ rfl).1; have r4 := (R0.out.2 4 _ rfl).1; have r5 := (R0.out.2 5 _ rfl).1
  have g0 := (R0.out.2 0 _ rfl).2; have g1 := (R0.out.2 1 _ rfl).2; have g2 := (R0.out.2 2 _ rfl).2; have g3 := (R0.out.2 3 _ rfl).2; have g4 := (R0.out.2 4 _ rfl).2; have g5 := (R0.out.2 5 _ rfl).2
  have E0 : Hid (Below w.heap.size w (w.alloc (.cells #[.slice none 0 0, .int .i64 0, .slice none 0 0, .int .i64 0, .slice none 0 0, .int .i64 0] 30))) := (by go_grown : Below w.heap.size w (w.alloc _))
  have s0 : w.heap.size < (w.alloc (.cells #[.slice none 0 0, .int .i64 0, .slice none 0 0, .int .i64 0, .slice none 0 0, .int .i64 0] 30)).heap.size := by simp
  go_enter Tryd.func93, Tryd.ntmps93
  go_wp2
  generalize w.alloc (.cells #[.slice none 0 0, .int .i64 0, .slice none 0 0, .int .i64 0, .slice none 0 0, .int .i64 0] 30) = w0 at *
  go_region_held3 (fun w' => w'.cell? ⟨b, 0, none⟩ = some (.slice A n c) ∧ w'.cell? ⟨b, 1, none⟩ = some (.int .i64 p) ∧ w'.cell? ⟨b, 2, none⟩ = some (.slice A' n' c') ∧ w'.cell? ⟨b, 3, none⟩ = some (.int .i64 q) ∧ w'.cell? ⟨b, 4, none⟩ = some (.slice A2 n2 c2) ∧ w'.cell? ⟨b, 5, none⟩ = some (.int .i64 z)) (refine ⟨?_, ?_, ?_, ?_, ?_, ?_⟩ <;> first | (with_reducible assumption) | (with_reducible exact keep0 x0) | (with_reducible exact keep0 x1) | (with_reducible exact keep0 x2) | (with_reducible exact keep0 x3) | (with_reducible exact keep0 x4) | (with_reducible exact keep0 x5) | (with_reducible exact keep6 x0 hne1) | (with_reducible exact keep6 x1 hne1) | (with_reducible exact keep6 x2 hne1) | (with_reducible exact keep6 x3 hne1) | (with_reducible exact keep6 x4 hne1) | (with_reducible exact keep6 x5 hne1)) (fail)
  go_wp2
  refine bodyPost_ret (v := .agg #[.slice (A) n c, .int .i64 (p), .slice (A') n' c', .int .i64 (q), .slice (A2) n2 c2, .int .i64 (z)]) (by simp [results, Tryd.results93, go_sem, r0, r1, r2, r3, r4, r5, g0, g1, g2, g3, g4, g5]) rfl ?_
  refine ⟨rfl, ?_⟩
  repeat (first | (with_reducible refine below_set ?_ (by omega) _) | (with_reducible refine Below.drew ?_))
  exact E0.out

def newWOut (D : List Int) (p : Int) (S : List Int) (q z : Int) : Rv × Bool := if validW D p S q [] z then (⟨D, p, S, q, [], z⟩, true) else (.zero, false)
theorem newWOut_le (D : List Int) (p : Int) (S : List Int) (q z : Int) : (newWOut D p S q z).1.d.length ≤ 60 ∧ (newWOut D p S q z).1.s.length ≤ 60 ∧ (newWOut D p S q z).1.r.length ≤ 60 := by
  unfold newWOut
  split
  · obtain ⟨hv, _⟩ := validW_iff.1 ‹_›
    obtain ⟨hb, hs, _⟩ := validD_iff.1 hv
    exact ⟨bytesB_le hb, by show S.length ≤ 60; omega, by show ([] : List Int).length ≤ 60; simp⟩
  · exact ⟨by decide, by decide, by decide⟩
def tellWOut (D : List Int) (p : Int) (S : List Int) (q : Int) (R : List Int) (z : Int) : Int := if validW D p S q R z then p + (R.length : Int) else -1
def roomOut (D : List Int) (p : Int) (S : List Int) (q : Int) (R : List Int) (z : Int) : Int := if validW D p S q R z then z - (R.length : Int) else -1
set_option maxHeartbeats 1000000 in
theorem TellWriter_x {A A' A2 : Option Addr} {n c n' c' n2 c2 : Nat} {D S R : List Int} {p q z : Int} {w : World} {L L' B B' M C : Nat} (h : Ints w L B A n D) (h' : Ints w L' B' A' n' S) (g : Ints w M C A2 n2 R) (hB : B ≤ w.heap.size) (hB' : B' ≤ w.heap.size) (hC : C ≤ w.heap.size) (_hnc : n ≤ c) :
    Calls Tryd.prog 38 #[.agg #[.slice (A) n c, .int .i64 (p), .slice (A') n' c', .int .i64 (q), .slice (A2) n2 c2, .int .i64 (z)]] w (IntB (tellWOut D p S q R z) w) := by
  have HG := Lib.hid g.len
  have HL := Lib.hid h.len
  have HL' := Lib.hid h'.len
  have H1 := Lib.hid (h.alloc hB (.cells #[.slice (A) n c, .int .i64 (p), .slice (A') n' c', .int .i64 (q), .slice (A2) n2 c2, .int .i64 (z)] 30))
  have H2 := Lib.hid (h'.alloc hB' (.cells #[.slice (A) n c, .int .i64 (p), .slice (A') n' c', .int .i64 (q), .slice (A2) n2 c2, .int .i64 (z)] 30))
  have G1 := Lib.hid (g.alloc hC (.cells #[.slice (A) n c, .int .i64 (p), .slice (A') n' c', .int .i64 (q), .slice (A2) n2 c2, .int .i64 (z)] 30))
  have X0 := Lib.hid (Box.new w 30 [.slice (A) n c, .int .i64 (p), .slice (A') n' c', .int .i64 (q), .slice (A2) n2 c2, .int .i64 (z)])
  clear h h' g
  go_enter Tryd.func38, Tryd.ntmps38
  go_wp2_with fail
  refine (ValidWriter_any H1.out H2.out G1.out (by first | omega | (simp; omega) | (simp; done)) (by first | omega | (simp; omega) | (simp; done)) (by first | omega | (simp; omega) | (simp; done)) _hnc).mono ?_
  rintro e w1 ⟨rfl, hb1⟩
  (try simp only [World.size_alloc, World.size_setCell, World.size_drew] at hb1)
  have E1 : Hid (Below w.heap.size w w1) := below_step hb1 (by go_grown) (by omega)
  have s1 := hb1.size
  (try simp only [World.size_alloc, World.size_setCell, World.size_drew] at s1)
  have X1 := Lib.hid (X0.out.below hb1 (by omega))
  have I1 := Lib.hid (H1.out.below hb1 (by omega))
  have I2 := Lib.hid (H2.out.below hb1 (by omega))
  have G2 := Lib.hid (G1.out.below hb1 (by omega))
  clear hb1 H1 H2 G1 X0
  have x0 := (X1.out.2 0 _ rfl).1; have x1 := (X1.out.2 1 _ rfl).1; have x2 := (X1.out.2 2 _ rfl).1; have x3 := (X1.out.2 3 _ rfl).1; have x4 := (X1.out.2 4 _ rfl).1; have x5 := (X1.out.2 5 _ rfl).1
  cases hv : validW D p S q R z
  · have HO : Hid (tellWOut D p S q R z = -1) := by show _ = _; simp [tellWOut, hv]
    have HV := Lib.hid hv
    clear hv
    go_wp2
    go_ret
    exact ⟨ret_int HO.out.symm, E1.out⟩
  · have HO : Hid (tellWOut D p S q R z = p + (n2 : Int)) := by show _ = _; simp [tellWOut, hv, HG.out]
    obtain ⟨hvd, hz, hRz, _⟩ := validW_iff.1 hv
    obtain ⟨hb, hs12, _, hp, hq⟩ := validD_iff.1 hvd
    have hn16 : n2 ≤ 16 := by have := HG.out; omega
    have hw : IntKind.i64.wrap (p + (n2 : Int)) = p + (n2 : Int) := IntWalk.i64_in _ (by omega)
    clear hv hvd hb hs12
    go_wp2
    go_ret
    exact ⟨ret_int HO.out.symm, E1.out⟩
set_option maxHeartbeats 1000000 in
theorem RoomOf_x {A A' A2 : Option Addr} {n c n' c' n2 c2 : Nat} {D S R : List Int} {p q z : Int} {w : World} {L L' B B' M C : Nat} (h : Ints w L B A n D) (h' : Ints w L' B' A' n' S) (g : Ints w M C A2 n2 R) (hB : B ≤ w.heap.size) (hB' : B' ≤ w.heap.size) (hC : C ≤ w.heap.size) (_hnc : n ≤ c) :
    Calls Tryd.prog 45 #[.agg #[.slice (A) n c, .int .i64 (p), .slice (A') n' c', .int .i64 (q), .slice (A2) n2 c2, .int .i64 (z)]] w (IntB (roomOut D p S q R z) w) := by
  have HG := Lib.hid g.len
  have HL := Lib.hid h.len
  have HL' := Lib.hid h'.len
  have H1 := Lib.hid (h.alloc hB (.cells #[.slice (A) n c, .int .i64 (p), .slice (A') n' c', .int .i64 (q), .slice (A2) n2 c2, .int .i64 (z)] 30))
  have H2 := Lib.hid (h'.alloc hB' (.cells #[.slice (A) n c, .int .i64 (p), .slice (A') n' c', .int .i64 (q), .slice (A2) n2 c2, .int .i64 (z)] 30))
  have G1 := Lib.hid (g.alloc hC (.cells #[.slice (A) n c, .int .i64 (p), .slice (A') n' c', .int .i64 (q), .slice (A2) n2 c2, .int .i64 (z)] 30))
  have X0 := Lib.hid (Box.new w 30 [.slice (A) n c, .int .i64 (p), .slice (A') n' c', .int .i64 (q), .slice (A2) n2 c2, .int .i64 (z)])
  clear h h' g
  go_enter Tryd.func45, Tryd.ntmps45
  go_wp2_with fail
  refine (ValidWriter_any H1.out H2.out G1.out (by first | omega | (simp; omega) | (simp; done)) (by first | omega | (simp; omega) | (simp; done)) (by first | omega | (simp; omega) | (simp; done)) _hnc).mono ?_
  rintro e w1 ⟨rfl, hb1⟩
  (try simp only [World.size_alloc, World.size_setCell, World.size_drew] at hb1)
  have E1 : Hid (Below w.heap.size w w1) := below_step hb1 (by go_grown) (by omega)
  have s1 := hb1.size
  (try simp only [World.size_alloc, World.size_setCell, World.size_drew] at s1)
  have X1 := Lib.hid (X0.out.below hb1 (by omega))
  have I1 := Lib.hid (H1.out.below hb1 (by omega))
  have I2 := Lib.hid (H2.out.below hb1 (by omega))
  have G2 := Lib.hid (G1.out.below hb1 (by omega))
  clear hb1 H1 H2 G1 X0
  have x0 := (X1.out.2 0 _ rfl).1; have x1 := (X1.out.2 1 _ rfl).1; have x2 := (X1.out.2 2 _ rfl).1; have x3 := (X1.out.2 3 _ rfl).1; have x4 := (X1.out.2 4 _ rfl).1; have x5 := (X1.out.2 5 _ rfl).1
  cases hv : validW D p S q R z
  · have HO : Hid (roomOut D p S q R z = -1) := by show _ = _; simp [roomOut, hv]
    have HV := Lib.hid hv
    clear hv
    go_wp2
    go_ret
    exact ⟨ret_int HO.out.symm, E1.out⟩
  · have HO : Hid (roomOut D p S q R z = z - (n2 : Int)) := by show _ = _; simp [roomOut, hv, HG.out]
    obtain ⟨hvd, hz, hRz, _⟩ := validW_iff.1 hv
    obtain ⟨hb, hs12, _, hp, hq⟩ := validD_iff.1 hvd
    have hn16 : n2 ≤ 16 := by have := HG.out; omega
    have hw : IntKind.i64.wrap (z - (n2 : Int)) = z - (n2 : Int) := IntWalk.i64_in _ (by omega)
    clear hv hvd hb hs12
    go_wp2
    go_ret
    exact ⟨ret_int HO.out.symm, E1.out⟩
theorem ValidWriter_x {A A' A2 : Option Addr} {n c n' c' n2 c2 : Nat} {D S R : List Int} {p q z : Int} {w : World} {L L' B B' M C : Nat} (h : Ints w L B A n D) (h' : Ints w L' B' A' n' S) (g : Ints w M C A2 n2 R) (hB : B ≤ w.heap.size) (hB' : B' ≤ w.heap.size) (hC : C ≤ w.heap.size) (hnc : n ≤ c) :
    Calls Tryd.prog 42 #[.agg #[.slice (A) n c, .int .i64 (p), .slice (A') n' c', .int .i64 (q), .slice (A2) n2 c2, .int .i64 (z)]] w (BoolB (validW D p S q R z) w) := ValidWriter_any h h' g hB hB' hC hnc
end Go.Proofs.YtdiebkaedjlckaaDoor
