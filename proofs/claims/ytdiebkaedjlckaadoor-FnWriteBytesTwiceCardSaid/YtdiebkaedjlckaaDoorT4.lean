/- The model's public functions that take bytes. -/
import Derived.Test.YtdiebkaedjlckaaDoorW2
import Derived.Test.YtdiebkaedjlckaaDoorS3d
import Derived.Test.YtdiebkaedjlckaaDoorT3
namespace Go.Proofs.YtdiebkaedjlckaaDoor
open Go.ChangeShapes Go.WideShapes Go.ChangeAt Go.RowKit
set_option linter.unusedSimpArgs false
set_option linter.unusedVariables false
set_option maxRecDepth 10000

set_option maxHeartbeats 2000000 in
theorem sCopyWriter_row {A A' A2 : Option Addr} {n c n' c' n2 c2 : Nat} {D S R : List Int} {p q z : Int} {w : World} {L L' B B' M C : Nat} (h : Ints w L B A n D) (h' : Ints w L' B' A' n' S) (g : Ints w M C A2 n2 R) (hB : B ≤ w.heap.size) (hB' : B' ≤ w.heap.size) (hC : C ≤ w.heap.size)
    (hn : n ≤ 1048576) (hn' : n' ≤ 1048576) (hn2 : n2 ≤ 1048576) (hp : okInt p) (hq : okInt q) (hz : okInt z) :
    Calls Tryd.prog 52 #[.agg #[.slice (A) n c, .int .i64 (p), .slice (A') n' c', .int .i64 (q), .slice (A2) n2 c2, .int .i64 (z)]] w (fun e w' => ∃ (m : Nat) (A3 : Option Addr) (n3 c3 : Nat) (A3' : Option Addr) (n3' c3' : Nat) (A4 : Option Addr) (n4 c4 : Nat), e = .returned (.agg #[.slice (A3) n3 c3, .int .i64 (p), .slice (A3') n3' c3', .int .i64 (q), .slice (A4) n4 c4, .int .i64 (z)]) ∧ (n3 ≤ c3 ∧ n3' ≤ c3') ∧ Below w.heap.size w w' ∧ w.heap.size ≤ m ∧ m ≤ w'.heap.size ∧ Ints w' w.heap.size m A3 n3 D ∧ Ints w' w.heap.size m A3' n3' S ∧ RowI w' m w'.heap.size A4 n4 c4 R ∧ Apart A3 n3 A3' n3') := by
  have H1 : Hid (Ints ((w.alloc (.cells #[.slice (A) n c, .int .i64 (p), .slice (A') n' c', .int .i64 (q), .slice (A2) n2 c2, .int .i64 (z)] 30)).alloc (.cells #[.slice none 0 0, .int .i64 0, .slice none 0 0, .int .i64 0, .slice none 0 0, .int .i64 0] 30)) L B A n D) := (h.alloc hB _).alloc (by first | omega | (simp; omega) | (simp; done)) _
  have H2 : Hid (Ints ((w.alloc (.cells #[.slice (A) n c, .int .i64 (p), .slice (A') n' c', .int .i64 (q), .slice (A2) n2 c2, .int .i64 (z)] 30)).alloc (.cells #[.slice none 0 0, .int .i64 0, .slice none 0 0, .int .i64 0, .slice none 0 0, .int .i64 0] 30)) L' B' A' n' S) := (h'.alloc hB' _).alloc (by first | omega | (simp; omega) | (simp; done)) _
  have G1 : Hid (Ints ((w.alloc (.cells #[.slice (A) n c, .int .i64 (p), .slice (A') n' c', .int .i64 (q), .slice (A2) n2 c2, .int .i64 (z)] 30)).alloc (.cells #[.slice none 0 0, .int .i64 0, .slice none 0 0, .int .i64 0, .slice none 0 0, .int .i64 0] 30)) M C A2 n2 R) := (g.alloc hC _).alloc (by first | omega | (simp; omega) | (simp; done)) _
  have X0 : Hid (Box ((w.alloc (.cells #[.slice (A) n c, .int .i64 (p), .slice (A') n' c', .int .i64 (q), .slice (A2) n2 c2, .int .i64 (z)] 30)).alloc (.cells #[.slice none 0 0, .int .i64 0, .slice none 0 0, .int .i64 0, .slice none 0 0, .int .i64 0] 30)) w.heap.size [.slice (A) n c, .int .i64 (p), .slice (A') n' c', .int .i64 (q), .slice (A2) n2 c2, .int .i64 (z)]) := (Box.new w 30 [.slice (A) n c, .int .i64 (p), .slice (A') n' c', .int .i64 (q), .slice (A2) n2 c2, .int .i64 (z)]).alloc _
  have R0 : Hid (Box ((w.alloc (.cells #[.slice (A) n c, .int .i64 (p), .slice (A') n' c', .int .i64 (q), .slice (A2) n2 c2, .int .i64 (z)] 30)).alloc (.cells #[.slice none 0 0, .int .i64 0, .slice none 0 0, .int .i64 0, .slice none 0 0, .int .i64 0] 30)) (w.heap.size + 1) [.slice none 0 0, .int .i64 0, .slice none 0 0, .int .i64 0, .slice none 0 0, .int .i64 0]) := by
    have hx := Box.new (w.alloc (.cells #[.slice (A) n c, .int .i64 (p), .slice (A') n' c', .int .i64 (q), .slice (A2) n2 c2, .int .i64 (z)] 30)) 30 [.slice none 0 0, .int .i64 0, .slice none 0 0, .int .i64 0, .slice none 0 0, .int .i64 0]
    rw [World.size_alloc] at hx
    exact hx
  have E0 : Hid (Below w.heap.size w ((w.alloc (.cells #[.slice (A) n c, .int .i64 (p), .slice (A') n' c', .int .i64 (q), .slice (A2) n2 c2, .int .i64 (z)] 30)).alloc (.cells #[.slice none 0 0, .int .i64 0, .slice none 0 0, .int .i64 0, .slice none 0 0, .int .i64 0] 30))) := (by go_grown : Below w.heap.size w _)
  have s0 : ((w.alloc (.cells #[.slice (A) n c, .int .i64 (p), .slice (A') n' c', .int .i64 (q), .slice (A2) n2 c2, .int .i64 (z)] 30)).alloc (.cells #[.slice none 0 0, .int .i64 0, .slice none 0 0, .int .i64 0, .slice none 0 0, .int .i64 0] 30)).heap.size = w.heap.size + 2 := by simp
  have hne1 : w.heap.size ≠ w.heap.size + 1 := by omega
  clear h h' g
  go_enter Tryd.func52, Tryd.ntmps52
  go_wp2
  generalize (w.alloc (.cells #[.slice (A) n c, .int .i64 (p), .slice (A') n' c', .int .i64 (q), .slice (A2) n2 c2, .int .i64 (z)] 30)).alloc (.cells #[.slice none 0 0, .int .i64 0, .slice none 0 0, .int .i64 0, .slice none 0 0, .int .i64 0] 30) = w0 at *
  have x0 := (X0.out.2 0 _ rfl).1; have x1 := (X0.out.2 1 _ rfl).1; have x2 := (X0.out.2 2 _ rfl).1; have x3 := (X0.out.2 3 _ rfl).1; have x4 := (X0.out.2 4 _ rfl).1; have x5 := (X0.out.2 5 _ rfl).1
  have r0 := (R0.out.2 0 _ rfl).1; have r1 := (R0.out.2 1 _ rfl).1; have r2 := (R0.out.2 2 _ rfl).1; have r3 := (R0.out.2 3 _ rfl).1; have r4 := (R0.out.2 4 _ rfl).1; have r5 := (R0.out.2 5 _ rfl).1
  have k0 := (R0.out.2 0 _ rfl).2; have k1 := (R0.out.2 1 _ rfl).2; have k2 := (R0.out.2 2 _ rfl).2; have k3 := (R0.out.2 3 _ rfl).2; have k4 := (R0.out.2 4 _ rfl).2; have k5 := (R0.out.2 5 _ rfl).2
  go_region_held3 (fun w' => w'.cell? ⟨w.heap.size, 0, none⟩ = some (.slice A n c) ∧ w'.cell? ⟨w.heap.size, 1, none⟩ = some (.int .i64 p) ∧ w'.cell? ⟨w.heap.size, 2, none⟩ = some (.slice A' n' c') ∧ w'.cell? ⟨w.heap.size, 3, none⟩ = some (.int .i64 q) ∧ w'.cell? ⟨w.heap.size, 4, none⟩ = some (.slice A2 n2 c2) ∧ w'.cell? ⟨w.heap.size, 5, none⟩ = some (.int .i64 z))
    (refine ⟨?_, ?_, ?_, ?_, ?_, ?_⟩ <;> first | (with_reducible assumption) | (with_reducible exact keep0 x0) | (with_reducible exact keep0 x1) | (with_reducible exact keep0 x2) | (with_reducible exact keep0 x3) | (with_reducible exact keep0 x4) | (with_reducible exact keep0 x5) | (with_reducible exact keepS x0 hne1) | (with_reducible exact keepS x1 hne1) | (with_reducible exact keepS x2 hne1) | (with_reducible exact keepS x3 hne1) | (with_reducible exact keepS x4 hne1) | (with_reducible exact keepS x5 hne1))
    (first | (go_at_call 89; refine (sCopyDevice_any H1.out.drew H2.out.drew (by first | omega | (simp; omega) | (simp; done)) (by first | omega | (simp; omega) | (simp; done)) hn hn' hp hq).mono ?_; rintro e w1 ⟨A3, n3, c3, A3', n3', c3', rfl, ⟨hc3, hc3'⟩, hb1, hd, hd', ha, _, _⟩; (try simp only [World.size_alloc, World.size_setCell, World.size_drew] at hb1 hd hd'); have HB1 := Lib.hid hb1; have D1 := Lib.hid hd; have D1' := Lib.hid hd'; have HA := Lib.hid ha; have s1 := hb1.size; (try simp only [World.size_alloc, World.size_setCell, World.size_drew] at s1); have X1 := Lib.hid (X0.out.drew.below hb1 (by omega)); have R1 := Lib.hid (R0.out.drew.below hb1 (by omega)); have G2 := Lib.hid (G1.out.drew.below hb1 (by first | omega | (simp; omega) | (simp; done))); clear hb1 hd hd' ha; have x0 := (X1.out.2 0 _ rfl).1; have x1 := (X1.out.2 1 _ rfl).1; have x2 := (X1.out.2 2 _ rfl).1; have x3 := (X1.out.2 3 _ rfl).1; have x4 := (X1.out.2 4 _ rfl).1; have x5 := (X1.out.2 5 _ rfl).1; have r0 := (R1.out.2 0 _ rfl).1; have r1 := (R1.out.2 1 _ rfl).1; have r2 := (R1.out.2 2 _ rfl).1; have r3 := (R1.out.2 3 _ rfl).1; have r4 := (R1.out.2 4 _ rfl).1; have r5 := (R1.out.2 5 _ rfl).1; have k0 := (R1.out.2 0 _ rfl).2; have k1 := (R1.out.2 1 _ rfl).2; have k2 := (R1.out.2 2 _ rfl).2; have k3 := (R1.out.2 3 _ rfl).2; have k4 := (R1.out.2 4 _ rfl).2; have k5 := (R1.out.2 5 _ rfl).2) | (go_at_call 88; refine (copyInts_row G2.out (by omega) hn2).mono ?_; rintro e w2 ⟨A4, n4, c4, rfl, hc4, hb2, hi2⟩; (try simp only [World.size_alloc, World.size_setCell, World.size_drew] at hb2 hi2); have HB2 := Lib.hid hb2; have HI2 := Lib.hid hi2; have s2 := hb2.size; have X2 := Lib.hid (X1.out.below hb2 (by omega)); have R2 := Lib.hid (R1.out.below hb2 (by omega)); clear hb2 hi2; have x0 := (X2.out.2 0 _ rfl).1; have x1 := (X2.out.2 1 _ rfl).1; have x2 := (X2.out.2 2 _ rfl).1; have x3 := (X2.out.2 3 _ rfl).1; have x4 := (X2.out.2 4 _ rfl).1; have x5 := (X2.out.2 5 _ rfl).1; have r0 := (R2.out.2 0 _ rfl).1; have r1 := (R2.out.2 1 _ rfl).1; have r2 := (R2.out.2 2 _ rfl).1; have r3 := (R2.out.2 3 _ rfl).1; have r4 := (R2.out.2 4 _ rfl).1; have r5 := (R2.out.2 5 _ rfl).1; have k0 := (R2.out.2 0 _ rfl).2; have k1 := (R2.out.2 1 _ rfl).2; have k2 := (R2.out.2 2 _ rfl).2; have k3 := (R2.out.2 3 _ rfl).2; have k4 := (R2.out.2 4 _ rfl).2; have k5 := (R2.out.2 5 _ rfl).2))
  go_wp2
  refine bodyPost_ret (v := .agg #[.slice (A3) n3 c3, .int .i64 (p), .slice (A3') n3' c3', .int .i64 (q), .slice (A4) n4 c4, .int .i64 (z)]) (by simp [results, Tryd.results52, go_sem, r0, r1, r2, r3, r4, r5, k0, k1, k2, k3, k4, k5]) rfl ?_
  have D2 := Lib.hid (D1.out.below HB2.out (by omega))
  have D2' := Lib.hid (D1'.out.below HB2.out (by omega))
  have E2 : Hid (Below w.heap.size w w2) := below_step HB2.out (below_step HB1.out E0.out.drew (by omega)) (by omega)
  refine ⟨w1.heap.size, _, _, _, _, _, _, _, _, _, rfl, ⟨hc3, hc3'⟩, ?_, by omega, by simp only [World.size_setCell]; omega, ?_, ?_, ?_, HA.out⟩
  · repeat (first | (with_reducible refine below_set ?_ (by omega) _) | (with_reducible refine Below.drew ?_))
    exact E2.out
  · refine Ints.more (lo := w0.heap.size) (hi := w1.heap.size) ?_ (by omega) (by omega)
    (repeat (with_reducible refine Ints.set_ ?_ (by omega) _))
    exact D2.out
  · refine Ints.more (lo := w0.heap.size) (hi := w1.heap.size) ?_ (by omega) (by omega)
    (repeat (with_reducible refine Ints.set_ ?_ (by omega) _))
    exact D2'.out
  · simp only [World.size_setCell]
    (repeat (with_reducible refine RowI.set_ ?_ (by omega) _))
    exact HI2.out
set_option maxHeartbeats 8000000 in
theorem SWriteBytes_x {A A' A2 AL : Option Addr} {n c n' c' n2 c2 nL cL : Nat} {D S R L : List Int} {p q z : Int} {w : World} {L0 L' B B' M C LL BL : Nat} (h : Ints w L0 B A n D) (h' : Ints w L' B' A' n' S) (g : Ints w M C A2 n2 R) (hl : Ints w LL BL AL nL L) (hB : B ≤ w.heap.size) (hB' : B' ≤ w.heap.size) (hC : C ≤ w.heap.size) (hBL : BL ≤ w.heap.size) (hc : n ≤ c) (hc1 : n' ≤ c') (hc2 : n2 ≤ c2) (hcL : nL ≤ cL) (_hn : n ≤ 1048576) (_hn1 : n' ≤ 1048576) (_hn2 : n2 ≤ 1048576) (_hnL : nL ≤ 1048576) :
    Calls Tryd.prog 13 #[.agg #[.slice (A) n c, .int .i64 (p), .slice (A') n' c', .int .i64 (q), .slice (A2) n2 c2, .int .i64 (z)], .slice AL nL cL] w (Post3W (wbOut D p S q R z (-1) L) w) := by
  have HG := Lib.hid g.len
  have HL := Lib.hid h.len
  have HL' := Lib.hid h'.len
  have HLL := Lib.hid hl.len
  have H1 : Hid (Ints ((w.alloc (.cells #[.slice (A) n c, .int .i64 (p), .slice (A') n' c', .int .i64 (q), .slice (A2) n2 c2, .int .i64 (z)] 30)).alloc (.cells #[.slice none 0 0, .int .i64 0, .slice none 0 0, .int .i64 0, .slice none 0 0, .int .i64 0] 30)) L0 B A n D) := (h.alloc hB _).alloc (by first | omega | (simp; omega) | (simp; done)) _
  have H2 : Hid (Ints ((w.alloc (.cells #[.slice (A) n c, .int .i64 (p), .slice (A') n' c', .int .i64 (q), .slice (A2) n2 c2, .int .i64 (z)] 30)).alloc (.cells #[.slice none 0 0, .int .i64 0, .slice none 0 0, .int .i64 0, .slice none 0 0, .int .i64 0] 30)) L' B' A' n' S) := (h'.alloc hB' _).alloc (by first | omega | (simp; omega) | (simp; done)) _
  have G1 : Hid (Ints ((w.alloc (.cells #[.slice (A) n c, .int .i64 (p), .slice (A') n' c', .int .i64 (q), .slice (A2) n2 c2, .int .i64 (z)] 30)).alloc (.cells #[.slice none 0 0, .int .i64 0, .slice none 0 0, .int .i64 0, .slice none 0 0, .int .i64 0] 30)) M C A2 n2 R) := (g.alloc hC _).alloc (by first | omega | (simp; omega) | (simp; done)) _
  have T1 : Hid (Ints ((w.alloc (.cells #[.slice (A) n c, .int .i64 (p), .slice (A') n' c', .int .i64 (q), .slice (A2) n2 c2, .int .i64 (z)] 30)).alloc (.cells #[.slice none 0 0, .int .i64 0, .slice none 0 0, .int .i64 0, .slice none 0 0, .int .i64 0] 30)) LL BL AL nL L) := (hl.alloc hBL _).alloc (by first | omega | (simp; omega) | (simp; done)) _
  have X0 : Hid (Box ((w.alloc (.cells #[.slice (A) n c, .int .i64 (p), .slice (A') n' c', .int .i64 (q), .slice (A2) n2 c2, .int .i64 (z)] 30)).alloc (.cells #[.slice none 0 0, .int .i64 0, .slice none 0 0, .int .i64 0, .slice none 0 0, .int .i64 0] 30)) w.heap.size [.slice (A) n c, .int .i64 (p), .slice (A') n' c', .int .i64 (q), .slice (A2) n2 c2, .int .i64 (z)]) := (Box.new w 30 [.slice (A) n c, .int .i64 (p), .slice (A') n' c', .int .i64 (q), .slice (A2) n2 c2, .int .i64 (z)]).alloc _
  have R0 : Hid (Box ((w.alloc (.cells #[.slice (A) n c, .int .i64 (p), .slice (A') n' c', .int .i64 (q), .slice (A2) n2 c2, .int .i64 (z)] 30)).alloc (.cells #[.slice none 0 0, .int .i64 0, .slice none 0 0, .int .i64 0, .slice none 0 0, .int .i64 0] 30)) (w.heap.size + 1) [.slice none 0 0, .int .i64 0, .slice none 0 0, .int .i64 0, .slice none 0 0, .int .i64 0]) := by
    have hx := Box.new (w.alloc (.cells #[.slice (A) n c, .int .i64 (p), .slice (A') n' c', .int .i64 (q), .slice (A2) n2 c2, .int .i64 (z)] 30)) 30 [.slice none 0 0, .int .i64 0, .slice none 0 0, .int .i64 0, .slice none 0 0, .int .i64 0]
    rw [World.size_alloc] at hx
    exact hx
  have E0 : Hid (Below w.heap.size w ((w.alloc (.cells #[.slice (A) n c, .int .i64 (p), .slice (A') n' c', .int .i64 (q), .slice (A2) n2 c2, .int .i64 (z)] 30)).alloc (.cells #[.slice none 0 0, .int .i64 0, .slice none 0 0, .int .i64 0, .slice none 0 0, .int .i64 0] 30))) := (by go_grown : Below w.heap.size w _)
  have s0 : (((w.alloc (.cells #[.slice (A) n c, .int .i64 (p), .slice (A') n' c', .int .i64 (q), .slice (A2) n2 c2, .int .i64 (z)] 30)).alloc (.cells #[.slice none 0 0, .int .i64 0, .slice none 0 0, .int .i64 0, .slice none 0 0, .int .i64 0] 30))).heap.size = w.heap.size + 2 := by simp
  clear h h' g hl
  have x0 := (X0.out.2 0 _ rfl).1; have x1 := (X0.out.2 1 _ rfl).1; have x2 := (X0.out.2 2 _ rfl).1; have x3 := (X0.out.2 3 _ rfl).1; have x4 := (X0.out.2 4 _ rfl).1; have x5 := (X0.out.2 5 _ rfl).1
  go_enter Tryd.func13, Tryd.ntmps13
  go_wp2_with fail
  generalize ((w.alloc (.cells #[.slice (A) n c, .int .i64 (p), .slice (A') n' c', .int .i64 (q), .slice (A2) n2 c2, .int .i64 (z)] 30)).alloc (.cells #[.slice none 0 0, .int .i64 0, .slice none 0 0, .int .i64 0, .slice none 0 0, .int .i64 0] 30)) = w0 at *
  clear x0 x1 x2 x3 x4 x5
  refine (sGoodWriter_any H1.out H2.out G1.out (by omega) (by omega) (by omega)).mono ?_
  rintro e w1 ⟨rfl, hb1⟩
  have s1 := hb1.size
  have E1 := Lib.hid (below_step hb1 E0.out (by omega))
  have X1 := Lib.hid (X0.out.below hb1 (by omega))
  have R1 := Lib.hid (R0.out.below hb1 (by omega))
  have I1 := Lib.hid (H1.out.below hb1 (by omega))
  have I2 := Lib.hid (H2.out.below hb1 (by omega))
  have G2 := Lib.hid (G1.out.below hb1 (by omega))
  have T2 := Lib.hid (T1.out.below hb1 (by omega))
  clear hb1 H1 H2 G1 X0 R0 E0 T1
  cases hg : goodW D p S q R z
  · have HO : Hid (wbOut D p S q R z (-1) L = (Rv.zero, 0, 5)) := by show _ = _; simp [wbOut, hg]
    clear hg
    have r0 := (R1.out.2 0 _ rfl).1; have r1 := (R1.out.2 1 _ rfl).1; have r2 := (R1.out.2 2 _ rfl).1; have r3 := (R1.out.2 3 _ rfl).1; have r4 := (R1.out.2 4 _ rfl).1; have r5 := (R1.out.2 5 _ rfl).1
    have g0 := (R1.out.2 0 _ rfl).2; have g1 := (R1.out.2 1 _ rfl).2; have g2 := (R1.out.2 2 _ rfl).2; have g3 := (R1.out.2 3 _ rfl).2; have g4 := (R1.out.2 4 _ rfl).2; have g5 := (R1.out.2 5 _ rfl).2
    go_wp2
    refine bodyPost_ret (v := .tuple #[.agg #[.slice none 0 0, .int .i64 0, .slice none 0 0, .int .i64 0, .slice none 0 0, .int .i64 0], .int .i64 0, .int .i64 5]) (by simp [results, Tryd.results13, go_sem, r0, r1, r2, r3, r4, r5, g0, g1, g2, g3, g4, g5]) rfl ?_
    rw [HO.out]
    refine Post3W.zero ?_
    (repeat (with_reducible refine below_set ?_ (by omega) _))
    exact E1.out
  · have HG0 := Lib.hid hg
    clear hg
    go_wp2_with fail
    refine (validBytes_any T2.out).mono ?_
    rintro e w9 ⟨rfl, rfl⟩
    cases hbL : bytesB L
    · have HO : Hid (wbOut D p S q R z (-1) L = (Rv.zero, 0, 5)) := by show _ = _; simp [wbOut, HG0.out, hbL]
      clear hbL
      have r0 := (R1.out.2 0 _ rfl).1; have r1 := (R1.out.2 1 _ rfl).1; have r2 := (R1.out.2 2 _ rfl).1; have r3 := (R1.out.2 3 _ rfl).1; have r4 := (R1.out.2 4 _ rfl).1; have r5 := (R1.out.2 5 _ rfl).1
      have g0 := (R1.out.2 0 _ rfl).2; have g1 := (R1.out.2 1 _ rfl).2; have g2 := (R1.out.2 2 _ rfl).2; have g3 := (R1.out.2 3 _ rfl).2; have g4 := (R1.out.2 4 _ rfl).2; have g5 := (R1.out.2 5 _ rfl).2
      go_wp2
      refine bodyPost_ret (v := .tuple #[.agg #[.slice none 0 0, .int .i64 0, .slice none 0 0, .int .i64 0, .slice none 0 0, .int .i64 0], .int .i64 0, .int .i64 5]) (by simp [results, Tryd.results13, go_sem, r0, r1, r2, r3, r4, r5, g0, g1, g2, g3, g4, g5]) rfl ?_
      rw [HO.out]
      refine Post3W.zero ?_
      (repeat (with_reducible refine below_set ?_ (by omega) _))
      exact E1.out
    · obtain ⟨q0, zn, hq0, hzn, hq9, hzz, hok, hL60, hLb, hD60, hS12, hR16, hpp, ho, hv, hr, hN⟩ := wb_start (e := (-1)) (show (goodW D p S q R z && bytesB L) = true by rw [HG0.out, hbL]; rfl)
      subst hq0; subst hzn
      have HO := Lib.hid ho; have HOK := Lib.hid hok; have HLB := Lib.hid hLb; have HV := Lib.hid hv
      have hn60 : n ≤ 60 := by rw [HL.out]; exact hD60
      have hn12 : n' ≤ 12 := by rw [HL'.out]; exact hS12
      have hn16 : n2 ≤ 16 := by rw [HG.out]; exact hR16
      have hnL60 : nL ≤ 60 := by rw [HLL.out]; exact hL60
      clear ho hok hLb hv hbL HG0 hr hN hD60 hS12 hR16
      have x0 := (X1.out.2 0 _ rfl).1; have x1 := (X1.out.2 1 _ rfl).1; have x2 := (X1.out.2 2 _ rfl).1; have x3 := (X1.out.2 3 _ rfl).1; have x4 := (X1.out.2 4 _ rfl).1; have x5 := (X1.out.2 5 _ rfl).1
      go_wp2_with fail
      clear x0 x1 x2 x3 x4 x5
      refine (sCopyWriter_row I1.out I2.out G2.out (by omega) (by omega) (by omega) (by omega) (by omega) (by omega) (by unfold okInt; omega) (by unfold okInt; omega) (by unfold okInt; omega)).mono ?_
      rintro e w2 ⟨m, A3, n3, c3, A3', n3', c3', A4, n4, c4, rfl, ⟨hc3, hc3'⟩, hb2, hwm, hmw, hd, hd', hr4, ha⟩
      have s2 := hb2.size
      have D2 := Lib.hid hd; have D2' := Lib.hid hd'; have D2r := Lib.hid hr4; have HAP := Lib.hid ha
      have R2 := Lib.hid (R1.out.below hb2 (by omega))
      have E2 := Lib.hid (below_step hb2 E1.out (by omega))
      have T3 := Lib.hid (T2.out.below hb2 (by omega))
      clear hb2 hd hd' hr4 ha R1 E1 I1 I2 G2 X1 T2
      have hno : ¬ (-1 : Int) ∈ L := fun hm => by have := (allB_iff.1 HLB.out _ hm).1; omega
      rw [tkAll_no L D p q0 R hno] at HO HV
      obtain ⟨F, hF⟩ : ∃ F, (tkGo S zn L D p q0 R).1 = F := ⟨_, rfl⟩
      obtain ⟨N, hN⟩ : ∃ N, (tkGo S zn L D p q0 R).2 = N := ⟨_, rfl⟩
      have htk := sWriteBytes_row (b := 976) (c' := c3') (cL := cL) D2.out D2'.out D2r.out T3.out (by omega) (by omega) (Nat.le_refl _) (by omega) (Apart.of_le D2.out D2r.out.ints (Nat.le_refl _)).symm (Nat.le_refl _) (by omega) hc3 hc3' hcL hzz (by omega) (by omega) (by have := HOK.out; rwa [← HLL.out] at this) HLB.out (by omega)
      rw [hF, hN] at htk
      rw [hF, hN] at HO
      rw [hF] at HV
      have HTK := Lib.hid htk
      clear htk hF hN hno
      go_wp2_with fail
      refine HTK.out.mono ?_
      rintro e w3 ⟨A1, n1, c1, A5, n5, c5, M1, C1, M5, C5, rfl, ⟨hc1b, hc5⟩, hb3, hi1, hr5, ⟨hC15, hC5, hM5w⟩, hor1, hor5⟩
      have s3 := hb3.size
      have D3 := Lib.hid hi1; have D3r := Lib.hid hr5.ints; have D3' := Lib.hid (D2'.out.below hb3 (by omega))
      have R3 := Lib.hid (R2.out.below hb3 (by omega))
      have E3 := Lib.hid (below_step hb3 E2.out (by omega))
      have hM1 : w1.heap.size ≤ M1 := by rcases hor1 with ⟨rfl, _⟩ | h <;> omega
      have hM5 : m ≤ M5 := by rcases hor5 with ⟨rfl, _⟩ | h <;> omega
      have AP3 : Hid (Apart A1 n1 A3' n3' ∧ Apart A5 n5 A1 n1 ∧ Apart A5 n5 A3' n3') := by
        show _ ∧ _ ∧ _
        refine ⟨?_, (Apart.of_le hi1 hr5.ints hC15).symm, (Apart.of_le D3'.out hr5.ints hM5).symm⟩
        rcases hor1 with ⟨_, _, rfl, rfl⟩ | h
        · exact HAP.out
        · exact (Apart.of_le D3'.out hi1 (by omega)).symm
      clear hb3 hi1 hr5 R2 E2 HTK D2 D2' D2r HAP T3
      have r0 := (R3.out.2 0 _ rfl).1; have r1 := (R3.out.2 1 _ rfl).1; have r2 := (R3.out.2 2 _ rfl).1; have r3 := (R3.out.2 3 _ rfl).1; have r4 := (R3.out.2 4 _ rfl).1; have r5 := (R3.out.2 5 _ rfl).1
      have g0 := (R3.out.2 0 _ rfl).2; have g1 := (R3.out.2 1 _ rfl).2; have g2 := (R3.out.2 2 _ rfl).2; have g3 := (R3.out.2 3 _ rfl).2; have g4 := (R3.out.2 4 _ rfl).2; have g5 := (R3.out.2 5 _ rfl).2
      go_wp2
      refine bodyPost_ret (v := .tuple #[.agg #[.slice (A1) n1 c1, .int .i64 (F.p), .slice (A3') n3' c3', .int .i64 ((F.q : Int)), .slice (A5) n5 c5, .int .i64 ((zn : Int))], .int .i64 (N : Int), .int .i64 F.st]) (by simp [results, Tryd.results13, go_sem, r0, r1, r2, r3, r4, r5, g0, g1, g2, g3, g4, g5]) rfl ?_
      rw [HO.out]
      obtain ⟨_, _, _, hp9, hq99⟩ := validD_iff.1 HV.out
      refine ⟨A1, n1, c1, A3', n3', c3', A5, n5, c5, rfl, ⟨hc1b, hc3', hc5⟩, ?_, ⟨⟨?_, ?_, AP3.out.1, by unfold okInt; show _ ≤ F.p ∧ F.p ≤ _; omega, by unfold okInt; show _ ≤ (F.q : Int) ∧ (F.q : Int) ≤ _; omega⟩, ?_, AP3.out.2.1, AP3.out.2.2, by unfold okInt; show _ ≤ (zn : Int) ∧ (zn : Int) ≤ _; omega⟩⟩
      · (repeat (with_reducible refine below_set ?_ (by omega) _))
        exact E3.out
      · simp only [World.size_setCell]
        refine Ints.more (lo := M1) (hi := C1) ?_ (by omega) (by omega)
        have hf : w.heap.size + 1 < M1 ∨ C1 ≤ w.heap.size + 1 := by omega
        (repeat (with_reducible refine Ints.set_ ?_ (by omega) _))
        exact D3.out
      · simp only [World.size_setCell]
        refine Ints.more (lo := w1.heap.size) (hi := m) ?_ (by omega) (by omega)
        (repeat (with_reducible refine Ints.set_ ?_ (by omega) _))
        exact D3'.out
      · simp only [World.size_setCell]
        refine Ints.more (lo := M5) (hi := C5) ?_ (by omega) (by omega)
        (repeat (with_reducible refine Ints.set_ ?_ (by omega) _))
        exact D3r.out
end Go.Proofs.YtdiebkaedjlckaaDoor
