/- The model's public functions that take bytes. -/
import Derived.Test.YtdiebkaedjlckaaDoorW2
import Derived.Test.YtdiebkaedjlckaaDoorS3d
import Derived.Test.YtdiebkaedjlckaaDoorT3
import Derived.Deep.DeepCutAuto
namespace Go.Proofs.YtdiebkaedjlckaaDoor
section
open Go.ChangeShapes Go.WideShapes Go.ChangeAt Go.RowKit
set_option linter.unusedSimpArgs false
set_option linter.unusedVariables false
set_option maxRecDepth 10000

set_option maxHeartbeats 2000000 in
theorem sCopyWriter_row {A A' A2 : Option Addr} {n c n' c' n2 c2 : Nat} {D S R : List Int} {p q z : Int} {w : World} {L L' B B' M C : Nat} (h : Ints w L B A n D) (h' : Ints w L' B' A' n' S) (g : Ints w M C A2 n2 R) (hB : B ≤ w.heap.size) (hB' : B' ≤ w.heap.size) (hC : C ≤ w.heap.size)
    (hn : n ≤ 1048576) (hn' : n' ≤ 1048576) (hn2 : n2 ≤ 1048576) (hp : okInt p) (hq : okInt q) (hz : okInt z) :
    Calls Tryd.prog 52 #[.agg #[.slice (A) n c, .int .i64 (p), .slice (A') n' c', .int .i64 (q), .slice (A2) n2 c2, .int .i64 (z)]] w (fun e w' => ∃ (m : Nat) (A3 : Option Addr) (n3 c3 : Nat) (A3' : Option Addr) (n3' c3' : Nat) (A4 : Option Addr) (n4 c4 : Nat), e = .returned (.agg #[.slice (A3) n3 c3, .int .i64 (p), .slice (A3') n3' c3', .int .i64 (q), .slice (A4) n4 c4, .int .i64 (z)]) ∧ (n3 ≤ c3 ∧ n3' ≤ c3') ∧ Below w.heap.size w w' ∧ w.heap.size ≤ m ∧ m ≤ w'.heap.size ∧ Ints w' w.heap.size m A3 n3 D ∧ Ints w' w.heap.size m A3' n3' S ∧ RowI w' m w'.heap.size A4 n4 c4 R ∧ Apart A3 n3 A3' n3') := by
  have H1 : Hid (Ints ((w.alloc (.cells #[.slice (A) n c, .int .i64 (p), .slice (A') n' c', .int .i64 (q), .slice (A2) n2 c2, .int .i64 (z)] 30)).alloc (.cells #[.slice none 0 0, .int .i64 0, .slice none 0 0, .int .i64 0, .slice none 0 0, .int .i64 0] 30)) L B A n D) := (h.alloc hB _).alloc (by first | omega | (simp; omega) | (simp; done)) _
  have H2 : Hid (Ints ((w.alloc (.cells #[.slice (A) n c, .int .i64 (p), .slice (A') n' c', .int .i64 (q), .slice (A2) n2 c2, .int .i64 (z)] 30)).alloc (.cells #[.slice none 0 0, .int .i64 0, .slice none 0 0, .int .i64 0, .slice none 0 0, .int .i64 0] 30)) L' B' A' n' S) := (h'.alloc hB' _).alloc (by first | omega | (simp; omega) | (simp; done)) _
  have G1 : Hid (Ints ((w.alloc (.cells #[.slice (A) n c, .int .i64 (p), .slice (A') n' c', .int .i64 (q), .slice (A2) n2 c2, .int .i64 (z)] 30)).alloc (.cells #[.slice none 0 0, .int .i64 0, .slice none 0 0, .int .i64 0, .slice none 0 0, .int .i64 0] 30)) M C A2 n2 R) := (g.alloc hC _).alloc (by first | omega | (simp; omega) | (simp; done)) _
  have X0 : Hid (Box ((w.alloc (.cells #[.slice (A) n c, .int .i64 (p), .slice (A') n' c', .int .i64 (q), .slice (A2) n2 c2, .int .i64 (z)] 30)).alloc (.cells #[.slice none 0 0, .int .i64 0, .slice none 0 0, .int .i64 0, .slice none 0 0, .int .i64 0] 30)) w.heap.size [.slice (A) n c, .int .i64 (p), .slice (A') n' c', .int .i64 (q), .slice (A2) n2 c2, .int .i64 (z)]) := (Box.new w 30 [.slice (A) n c, .int .i64 (p), .slice (A') n' c', .int .i64 (q), .slice (A2) n2 c2, .int .i64 (z)]).alloc _
  have R0 : Hid (Box ((w.alloc (.cells #[.slice (A) n c, .int .i64 (p), .slice (A') n' c', .int .i64 (q), .slice (A2) n2 c2, .int .i64 (z)] 30)).alloc (.cells #[.slice none 0 0, .int .i64 0, .slice none 0 0, .int .i64 0, .slice none 0 0, .int .i64 0] 30)) (w.heap.size + 1) [.slice none 0 0, .int .i64 0, .slice none 0 0, .int .i64 0, .slice none 0 0, .int .i64 0]) := by
    have hx := Box.new (w.alloc (.cells #[.slice (A) n c, .int .i64 (p), .slice (A') n' c', .int .i64 (q), .slice (A2) n2 c2, .int .i64 (z)] 30)) 30 [.slice none 0 0, .int .i64 0, .slice none 0 0, .int .i64 0, .slice none 0 0, .int .i64 0]
    rw [World.size_alloc] at hx
    exact hx
  have E0 : Hid (Below w.heap.size w ((w.alloc (.cells #[.slice (A) n c, .int .i64 (p), .slice (A') n' c', .int .i64 (q), .slice (A2) n2 c2, .int .i64 (z)] 30)).alloc (.cells #[.slice none 0 0, .int .i64 0, .slice none 0 0, .int .i64 0, .slice none 0 0, .int .i64 0] 30))) := (by go_grown : Below w.heap.size w _)
  have s0 : ((w.alloc (.cells #[.slice (A) n c, .int .i64 (p), .slice (A') n' c', .int .i64 (q), .slice (A2) n2 c2, .int .i64 (z)] 30)).alloc (.cells #[.slice none 0 0, .int .i64 0, .slice none 0 0, .int .i64 0, .slice none 0 0, .int .i64 0] 30)).heap.size = w.heap.size + 2 := by simp
  have hne1 : w.heap.size ≠ w.heap.size + 1 := by omega
  clear h h' g
  go_enter Tryd.func52, Tryd.ntmps52
  go_wp2
  generalize (w.alloc (.cells #[.slice (A) n c, .int .i64 (p), .slice (A') n' c', .int .i64 (q), .slice (A2) n2 c2, .int .i64 (z)] 30)).alloc (.cells #[.slice none 0 0, .int .i64 0, .slice none 0 0, .int .i64 0, .slice none 0 0, .int .i64 0] 30) = w0 at *
  have x0 := (X0.out.2 0 _ rfl).1; have x1 := (X0.out.2 1 _ rfl).1; have x2 := (X0.out.2 2 _ rfl).1; have x3 := (X0.out.2 3 _ rfl).1; have x4 := (X0.out.2 4 _ rfl).1; have x5 := (X0.out.2 5 _ rfl).1
  have r0 := (R0.out.2 0 _ rfl).1; have r1 := (R0.out.2 1 _ rfl).1; have r2 := (R0.out.2 2 _ rfl).1; have r3 := (R0.out.2 3 _ rfl).1; have r4 := (R0.out.2 4 _ rfl).1; have r5 := (R0.out.2 5 _ rfl).1
  have k0 := (R0.out.2 0 _ rfl).2; have k1 := (R0.out.2 1 _ rfl).2; have k2 := (R0.out.2 2 _ rfl).2; have k3 := (R0.out.2 3 _ rfl).2; have k4 := (R0.out.2 4 _ rfl).2; have k5 := (R0.out.2 5 _ rfl).2
  go_region_held3 (fun w' => w'.cell? ⟨w.heap.size, 0, none⟩ = some (.slice A n c) ∧ w'.cell? ⟨w.heap.size, 1, none⟩ = some (.int .i64 p) ∧ w'.cell? ⟨w.heap.size, 2, none⟩ = some (.slice A' n' c') ∧ w'.cell? ⟨w.heap.size, 3, none⟩ = some (.int .i64 q) ∧ w'.cell? ⟨w.heap.size, 4, none⟩ = some (.slice A2 n2 c2) ∧ w'.cell? ⟨w.heap.size, 5, none⟩ = some (.int .i64 z))
    (refine ⟨?_, ?_, ?_, ?_, ?_, ?_⟩ <;> first | (with_reducible assumption) | (with_reducible exact keep0 x0) | (with_reducible exact keep0 x1) | (with_reducible exact keep0 x2) | (with_reducible exact keep0 x3) | (with_reducible exact keep0 x4) | (with_reducible exact keep0 x5) | (with_reducible exact keepS x0 hne1) | (with_reducible exact keepS x1 hne1) | (with_reducible exact keepS x2 hne1) | (with_reducible exact keepS x3 hne1) | (with_reducible exact keepS x4 hne1) | (with_reducible exact keepS x5 hne1))
    (first | (go_at_call 89; refine (sCopyDevice_any H1.out.drew H2.out.drew (by first | omega | (simp; omega) | (simp; done)) (by first | omega | (simp; omega) | (simp; done)) hn hn' hp hq).mono ?_; rintro e w1 ⟨A3, n3, c3, A3', n3', c3', rfl, ⟨hc3, hc3'⟩, hb1, hd, hd', ha, _, _⟩; (try simp only [World.size_alloc, World.size_setCell, World.size_drew] at hb1 hd hd'); have HB1 := Lib.hid hb1; have D1 := Lib.hid hd; have D1' := Lib.hid hd'; have HA := Lib.hid ha; have s1 := hb1.size; (try simp only [World.size_alloc, World.size_setCell, World.size_drew] at s1); have X1 := Lib.hid (X0.out.drew.below hb1 (by omega)); have R1 := Lib.hid (R0.out.drew.below hb1 (by omega)); have G2 := Lib.hid (G1.out.drew.below hb1 (by first | omega | (simp; omega) | (simp; done))); clear hb1 hd hd' ha; have x0 := (X1.out.2 0 _ rfl).1; have x1 := (X1.out.2 1 _ rfl).1; have x2 := (X1.out.2 2 _ rfl).1; have x3 := (X1.out.2 3 _ rfl).1; have x4 := (X1.out.2 4 _ rfl).1; have x5 := (X1.out.2 5 _ rfl).1; have r0 := (R1.out.2 0 _ rfl).1; have r1 := (R1.out.2 1 _ rfl).1; have r2 := (R1.out.2 2 _ rfl).1; have r3 := (R1.out.2 3 _ rfl).1; have r4 := (R1.out.2 4 _ rfl).1; have r5 := (R1.out.2 5 _ rfl).1; have k0 := (R1.out.2 0 _ rfl).2; have k1 := (R1.out.2 1 _ rfl).2; have k2 := (R1.out.2 2 _ rfl).2; have k3 := (R1.out.2 3 _ rfl).2; have k4 := (R1.out.2 4 _ rfl).2; have k5 := (R1.out.2 5 _ rfl).2) | (go_at_call 88; refine (copyInts_row G2.out (by omega) hn2).mono ?_; rintro e w2 ⟨A4, n4, c4, rfl, hc4, hb2, hi2⟩; (try simp only [World.size_alloc, World.size_setCell, World.size_drew] at hb2 hi2); have HB2 := Lib.hid hb2; have HI2 := Lib.hid hi2; have s2 := hb2.size; have X2 := Lib.hid (X1.out.below hb2 (by omega)); have R2 := Lib.hid (R1.out.below hb2 (by omega)); clear hb2 hi2; have x0 := (X2.out.2 0 _ rfl).1; have x1 := (X2.out.2 1 _ rfl).1; have x2 := (X2.out.2 2 _ rfl).1; have x3 := (X2.out.2 3 _ rfl).1; have x4 := (X2.out.2 4 _ rfl).1; have x5 := (X2.out.2 5 _ rfl).1; have r0 := (R2.out.2 0 _ rfl).1; have r1 := (R2.out.2 1 _ rfl).1; have r2 := (R2.out.2 2 _ rfl).1; have r3 := (R2.out.2 3 _ rfl).1; have r4 := (R2.out.2 4 _ rfl).1; have r5 := (R2.out.2 5 _ rfl).1; have k0 := (R2.out.2 0 _ rfl).2; have k1 := (R2.out.2 1 _ rfl).2; have k2 := (R2.out.2 2 _ rfl).2; have k3 := (R2.out.2 3 _ rfl).2; have k4 := (R2.out.2 4 _ rfl).2; have k5 := (R2.out.2 5 _ rfl).2))
  go_wp2
  refine bodyPost_ret (v := .agg #[.slice (A3) n3 c3, .int .i64 (p), .slice (A3') n3' c3', .int .i64 (q), .slice (A4) n4 c4, .int .i64 (z)]) (by simp [results, Tryd.results52, go_sem, r0, r1, r2, r3, r4, r5, k0, k1, k2, k3, k4, k5]) rfl ?_
  have D2 := Lib.hid (D1.out.below HB2.out (by omega))
  have D2' := Lib.hid (D1'.out.below HB2.out (by omega))
  have E2 : Hid (Below w.heap.size w w2) := below_step HB2.out (below_step HB1.out E0.out.drew (by omega)) (by omega)
  refine ⟨w1.heap.size, _, _, _, _, _, _, _, _, _, rfl, ⟨hc3, hc3'⟩, ?_, by omega, by simp only [World.size_setCell]; omega, ?_, ?_, ?_, HA.out⟩
  · repeat (first | (with_reducible refine below_set ?_ (by omega) _) | (with_reducible refine Below.drew ?_))
    exact E2.out
  · refine Ints.more (lo := w0.heap.size) (hi := w1.heap.size) ?_ (by omega) (by omega)
    (repeat (with_reducible refine Ints.set_ ?_ (by omega) _))
    exact D2.out
  · refine Ints.more (lo := w0.heap.size) (hi := w1.heap.size) ?_ (by omega) (by omega)
    (repeat (with_reducible refine Ints.set_ ?_ (by omega) _))
    exact D2'.out
  · simp only [World.size_setCell]
    (repeat (with_reducible refine RowI.set_ ?_ (by omega) _))
    exact HI2.out
set_option maxHeartbeats 8000000 in
theorem SWriteBytes_x {A A' A2 AL : Option Addr} {n c n' c' n2 c2 nL cL : Nat} {D S R L : List Int} {p q z : Int} {w : World} {L0 L' B B' M C LL BL : Nat} (h : Ints w L0 B A n D) (h' : Ints w L' B' A' n' S) (g : Ints w M C A2 n2 R) (hl : Ints w LL BL AL nL L) (hB : B ≤ w.heap.size) (hB' : B' ≤ w.heap.size) (hC : C ≤ w.heap.size) (hBL : BL ≤ w.heap.size) (hc : n ≤ c) (hc1 : n' ≤ c') (hc2 : n2 ≤ c2) (hcL : nL ≤ cL) (_hn : n ≤ 1048576) (_hn1 : n' ≤ 1048576) (_hn2 : n2 ≤ 1048576) (_hnL : nL ≤ 1048576) :
    Calls Tryd.prog 13 #[.agg #[.slice (A) n c, .int .i64 (p), .slice (A') n' c', .int .i64 (q), .slice (A2) n2 c2, .int .i64 (z)], .slice AL nL cL] w (Post3W (wbOut D p S q R z (-1) L) w) := by
  have HG := Lib.hid g.len
  have HL := Lib.hid h.len
  have HL' := Lib.hid h'.len
  have HLL := Lib.hid hl.len
  have H1 : Hid (Ints ((w.alloc (.cells #[.slice (A) n c, .int .i64 (p), .slice (A') n' c', .int .i64 (q), .slice (A2) n2 c2, .int .i64 (z)] 30)).alloc (.cells #[.slice none 0 0, .int .i64 0, .slice none 0 0, .int .i64 0, .slice none 0 0, .int .i64 0] 30)) L0 B A n D) := (h.alloc hB _).alloc (by first | omega | (simp; omega) | (simp; done)) _
  have H2 : Hid (Ints ((w.alloc (.cells #[.slice (A) n c, .int .i64 (p), .slice (A') n' c', .int .i64 (q), .slice (A2) n2 c2, .int .i64 (z)] 30)).alloc (.cells #[.slice none 0 0, .int .i64 0, .slice none 0 0, .int .i64 0, .slice none 0 0, .int .i64 0] 30)) L' B' A' n' S) := (h'.alloc hB' _).alloc (by first | omega | (simp; omega) | (simp; done)) _
  have G1 : Hid (Ints ((w.alloc (.cells #[.slice (A) n c, .int .i64 (p), .slice (A') n' c', .int .i64 (q), .slice (A2) n2 c2, .int .i64 (z)] 30)).alloc (.cells #[.slice none 0 0, .int .i64 0, .slice none 0 0, .int .i64 0, .slice none 0 0, .int .i64 0] 30)) M C A2 n2 R) := (g.alloc hC _).alloc (by first | omega | (simp; omega) | (simp; done)) _
  have T1 : Hid (Ints ((w.alloc (.cells #[.slice (A) n c, .int .i64 (p), .slice (A') n' c', .int .i64 (q), .slice (A2) n2 c2, .int .i64 (z)] 30)).alloc (.cells #[.slice none 0 0, .int .i64 0, .slice none 0 0, .int .i64 0, .slice none 0 0, .int .i64 0] 30)) LL BL AL nL L) := (hl.alloc hBL _).alloc (by first | omega | (simp; omega) | (simp; done)) _
  have X0 : Hid (Box ((w.alloc (.cells #[.slice (A) n c, .int .i64 (p), .slice (A') n' c', .int .i64 (q), .slice (A2) n2 c2, .int .i64 (z)] 30)).alloc (.cells #[.slice none 0 0, .int .i64 0, .slice none 0 0, .int .i64 0, .slice none 0 0, .int .i64 0] 30)) w.heap.size [.slice (A) n c, .int .i64 (p), .slice (A') n' c', .int .i64 (q), .slice (A2) n2 c2, .int .i64 (z)]) := (Box.new w 30 [.slice (A) n c, .int .i64 (p), .slice (A') n' c', .int .i64 (q), .slice (A2) n2 c2, .int .i64 (z)]).alloc _
  have R0 : Hid (Box ((w.alloc (.cells #[.slice (A) n c, .int .i64 (p), .slice (A') n' c', .int .i64 (q), .slice (A2) n2 c2, .int .i64 (z)] 30)).alloc (.cells #[.slice none 0 0, .int .i64 0, .slice none 0 0, .int .i64 0, .slice none 0 0, .int .i64 0] 30)) (w.heap.size + 1) [.slice none 0 0, .int .i64 0, .slice none 0 0, .int .i64 0, .slice none 0 0, .int .i64 0]) := by
    have hx := Box.new (w.alloc (.cells #[.slice (A) n c, .int .i64 (p), .slice (A') n' c', .int .i64 (q), .slice (A2) n2 c2, .int .i64 (z)] 30)) 30 [.slice none 0 0, .int .i64 0, .slice none 0 0, .int .i64 0, .slice none 0 0, .int .i64 0]
    rw [World.size_alloc] at hx
    exact hx
  have E0 : Hid (Below w.heap.size w ((w.alloc (.cells #[.slice (A) n c, .int .i64 (p), .slice (A') n' c', .int .i64 (q), .slice (A2) n2 c2, .int .i64 (z)] 30)).alloc (.cells #[.slice none 0 0, .int .i64 0, .slice none 0 0, .int .i64 0, .slice none 0 0, .int .i64 0] 30))) := (by go_grown : Below w.heap.size w _)
  have s0 : (((w.alloc (.cells #[.slice (A) n c, .int .i64 (p), .slice (A') n' c', .int .i64 (q), .slice (A2) n2 c2, .int .i64 (z)] 30)).alloc (.cells #[.slice none 0 0, .int .i64 0, .slice none 0 0, .int .i64 0, .slice none 0 0, .int .i64 0] 30))).heap.size = w.heap.size + 2 := by simp
  clear h h' g hl
  have x0 := (X0.out.2 0 _ rfl).1; have x1 := (X0.out.2 1 _ rfl).1; have x2 := (X0.out.2 2 _ rfl).1; have x3 := (X0.out.2 3 _ rfl).1; have x4 := (X0.out.2 4 _ rfl).1; have x5 := (X0.out.2 5 _ rfl).1
  go_enter Tryd.func13, Tryd.ntmps13
  go_wp2_with fail
  generalize ((w.alloc (.cells #[.slice (A) n c, .int .i64 (p), .slice (A') n' c', .int .i64 (q), .slice (A2) n2 c2, .int .i64 (z)] 30)).alloc (.cells #[.slice none 0 0, .int .i64 0, .slice none 0 0, .int .i64 0, .slice none 0 0, .int .i64 0] 30)) = w0 at *
  clear x0 x1 x2 x3 x4 x5
  refine (sGoodWriter_any H1.out H2.out G1.out (by omega) (by omega) (by omega)).mono ?_
  rintro e w1 ⟨rfl, hb1⟩
  have s1 := hb1.size
  have E1 := Lib.hid (below_step hb1 E0.out (by omega))
  have X1 := Lib.hid (X0.out.below hb1 (by omega))
  have R1 := Lib.hid (R0.out.below hb1 (by omega))
  have I1 := Lib.hid (H1.out.below hb1 (by omega))
  have I2 := Lib.hid (H2.out.below hb1 (by omega))
  have G2 := Lib.hid (G1.out.below hb1 (by omega))
  have T2 := Lib.hid (T1.out.below hb1 (by omega))
  clear hb1 H1 H2 G1 X0 R0 E0 T1
  cases hg : goodW D p S q R z
  · have HO : Hid (wbOut D p S q R z (-1) L = (Rv.zero, 0, 5)) := by show _ = _; simp [wbOut, hg]
    clear hg
    have r0 := (R1.out.2 0 _ rfl).1; have r1 := (R1.out.2 1 _ rfl).1; have r2 := (R1.out.2 2 _ rfl).1; have r3 := (R1.out.2 3 _ rfl).1; have r4 := (R1.out.2 4 _ rfl).1; have r5 := (R1.out.2 5 _ rfl).1
    have g0 := (R1.out.2 0 _ rfl).2; have g1 := (R1.out.2 1 _ rfl).2; have g2 := (R1.out.2 2 _ rfl).2; have g3 := (R1.out.2 3 _ rfl).2; have g4 := (R1.out.2 4 _ rfl).2; have g5 := (R1.out.2 5 _ rfl).2
    go_wp2
    refine bodyPost_ret (v := .tuple #[.agg #[.slice none 0 0, .int .i64 0, .slice none 0 0, .int .i64 0, .slice none 0 0, .int .i64 0], .int .i64 0, .int .i64 5]) (by simp [results, Tryd.results13, go_sem, r0, r1, r2, r3, r4, r5, g0, g1, g2, g3, g4, g5]) rfl ?_
    rw [HO.out]
    refine Post3W.zero ?_
    (repeat (with_reducible refine below_set ?_ (by omega) _))
    exact E1.out
  · have HG0 := Lib.hid hg
    clear hg
    go_wp2_with fail
    refine (validBytes_any T2.out).mono ?_
    rintro e w9 ⟨rfl, rfl⟩
    cases hbL : bytesB L
    · have HO : Hid (wbOut D p S q R z (-1) L = (Rv.zero, 0, 5)) := by show _ = _; simp [wbOut, HG0.out, hbL]
      clear hbL
      have r0 := (R1.out.2 0 _ rfl).1; have r1 := (R1.out.2 1 _ rfl).1; have r2 := (R1.out.2 2 _ rfl).1; have r3 := (R1.out.2 3 _ rfl).1; have r4 := (R1.out.2 4 _ rfl).1; have r5 := (R1.out.2 5 _ rfl).1
      have g0 := (R1.out.2 0 _ rfl).2; have g1 := (R1.out.2 1 _ rfl).2; have g2 := (R1.out.2 2 _ rfl).2; have g3 := (R1.out.2 3 _ rfl).2; have g4 := (R1.out.2 4 _ rfl).2; have g5 := (R1.out.2 5 _ rfl).2
      go_wp2
      refine bodyPost_ret (v := .tuple #[.agg #[.slice none 0 0, .int .i64 0, .slice none 0 0, .int .i64 0, .slice none 0 0, .int .i64 0], .int .i64 0, .int .i64 5]) (by simp [results, Tryd.results13, go_sem, r0, r1, r2, r3, r4, r5, g0, g1, g2, g3, g4, g5]) rfl ?_
      rw [HO.out]
      refine Post3W.zero ?_
      (repeat (with_reducible refine below_set ?_ (by omega) _))
      exact E1.out
    · obtain ⟨q0, zn, hq0, hzn, hq9, hzz, hok, hL60, hLb, hD60, hS12, hR16, hpp, ho, hv, hr, hN⟩ := wb_start (e := (-1)) (show (goodW D p S q R z && bytesB L) = true by rw [HG0.out, hbL]; rfl)
      subst hq0; subst hzn
      have HO := Lib.hid ho; have HOK := Lib.hid hok; have HLB := Lib.hid hLb; have HV := Lib.hid hv
      have hn60 : n ≤ 60 := by rw [HL.out]; exact hD60
      have hn12 : n' ≤ 12 := by rw [HL'.out]; exact hS12
      have hn16 : n2 ≤ 16 := by rw [HG.out]; exact hR16
      have hnL60 : nL ≤ 60 := by rw [HLL.out]; exact hL60
      clear ho hok hLb hv hbL HG0 hr hN hD60 hS12 hR16
      have x0 := (X1.out.2 0 _ rfl).1; have x1 := (X1.out.2 1 _ rfl).1; have x2 := (X1.out.2 2 _ rfl).1; have x3 := (X1.out.2 3 _ rfl).1; have x4 := (X1.out.2 4 _ rfl).1; have x5 := (X1.out.2 5 _ rfl).1
      go_wp2_with fail
      clear x0 x1 x2 x3 x4 x5
      refine (sCopyWriter_row I1.out I2.out G2.out (by omega) (by omega) (by omega) (by omega) (by omega) (by omega) (by unfold okInt; omega) (by unfold okInt; omega) (by unfold okInt; omega)).mono ?_
      rintro e w2 ⟨m, A3, n3, c3, A3', n3', c3', A4, n4, c4, rfl, ⟨hc3, hc3'⟩, hb2, hwm, hmw, hd, hd', hr4, ha⟩
      have s2 := hb2.size
      have D2 := Lib.hid hd; have D2' := Lib.hid hd'; have D2r := Lib.hid hr4; have HAP := Lib.hid ha
      have R2 := Lib.hid (R1.out.below hb2 (by omega))
      have E2 := Lib.hid (below_step hb2 E1.out (by omega))
      have T3 := Lib.hid (T2.out.below hb2 (by omega))
      clear hb2 hd hd' hr4 ha R1 E1 I1 I2 G2 X1 T2
      have hno : ¬ (-1 : Int) ∈ L := fun hm => by have := (allB_iff.1 HLB.out _ hm).1; omega
      rw [tkAll_no L D p q0 R hno] at HO HV
      obtain ⟨F, hF⟩ : ∃ F, (tkGo S zn L D p q0 R).1 = F := ⟨_, rfl⟩
      obtain ⟨N, hN⟩ : ∃ N, (tkGo S zn L D p q0 R).2 = N := ⟨_, rfl⟩
      have htk := sWriteBytes_row (b := 976) (c' := c3') (cL := cL) D2.out D2'.out D2r.out T3.out (by omega) (by omega) (Nat.le_refl _) (by omega) (Apart.of_le D2.out D2r.out.ints (Nat.le_refl _)).symm (Nat.le_refl _) (by omega) hc3 hc3' hcL hzz (by omega) (by omega) (by have := HOK.out; rwa [← HLL.out] at this) HLB.out (by omega)
      rw [hF, hN] at htk
      rw [hF, hN] at HO
      rw [hF] at HV
      have HTK := Lib.hid htk
      clear htk hF hN hno
      go_wp2_with fail
      refine HTK.out.mono ?_
      rintro e w3 ⟨A1, n1, c1, A5, n5, c5, M1, C1, M5, C5, rfl, ⟨hc1b, hc5⟩, hb3, hi1, hr5, ⟨hC15, hC5, hM5w⟩, hor1, hor5⟩
      have s3 := hb3.size
      have D3 := Lib.hid hi1; have D3r := Lib.hid hr5.ints; have D3' := Lib.hid (D2'.out.below hb3 (by omega))
      have R3 := Lib.hid (R2.out.below hb3 (by omega))
      have E3 := Lib.hid (below_step hb3 E2.out (by omega))
      have hM1 : w1.heap.size ≤ M1 := by rcases hor1 with ⟨rfl, _⟩ | h <;> omega
      have hM5 : m ≤ M5 := by rcases hor5 with ⟨rfl, _⟩ | h <;> omega
      have AP3 : Hid (Apart A1 n1 A3' n3' ∧ Apart A5 n5 A1 n1 ∧ Apart A5 n5 A3' n3') := by
        show _ ∧ _ ∧ _
        refine ⟨?_, (Apart.of_le hi1 hr5.ints hC15).symm, (Apart.of_le D3'.out hr5.ints hM5).symm⟩
        rcases hor1 with ⟨_, _, rfl, rfl⟩ | h
        · exact HAP.out
        · exact (Apart.of_le D3'.out hi1 (by omega)).symm
      clear hb3 hi1 hr5 R2 E2 HTK D2 D2' D2r HAP T3
      have r0 := (R3.out.2 0 _ rfl).1; have r1 := (R3.out.2 1 _ rfl).1; have r2 := (R3.out.2 2 _ rfl).1; have r3 := (R3.out.2 3 _ rfl).1; have r4 := (R3.out.2 4 _ rfl).1; have r5 := (R3.out.2 5 _ rfl).1
      have g0 := (R3.out.2 0 _ rfl).2; have g1 := (R3.out.2 1 _ rfl).2; have g2 := (R3.out.2 2 _ rfl).2; have g3 := (R3.out.2 3 _ rfl).2; have g4 := (R3.out.2 4 _ rfl).2; have g5 := (R3.out.2 5 _ rfl).2
      go_wp2
      refine bodyPost_ret (v := .tuple #[.agg #[.slice (A1) n1 c1, .int .i64 (F.p), .slice (A3') n3' c3', .int .i64 ((F.q : Int)), .slice (A5) n5 c5, .int .i64 ((zn : Int))], .int .i64 (N : Int), .int .i64 F.st]) (by simp [results, Tryd.results13, go_sem, r0, r1, r2, r3, r4, r5, g0, g1, g2, g3, g4, g5]) rfl ?_
      rw [HO.out]
      obtain ⟨_, _, _, hp9, hq99⟩ := validD_iff.1 HV.out
      refine ⟨A1, n1, c1, A3', n3', c3', A5, n5, c5, rfl, ⟨hc1b, hc3', hc5⟩, ?_, ⟨⟨?_, ?_, AP3.out.1, by unfold okInt; show _ ≤ F.p ∧ F.p ≤ _; omega, by unfold okInt; show _ ≤ (F.q : Int) ∧ (F.q : Int) ≤ _; omega⟩, ?_, AP3.out.2.1, AP3.out.2.2, by unfold okInt; show _ ≤ (zn : Int) ∧ (zn : Int) ≤ _; omega⟩⟩
      · (repeat (with_reducible refine below_set ?_ (by omega) _))
        exact E3.out
      · simp only [World.size_setCell]
        refine Ints.more (lo := M1) (hi := C1) ?_ (by omega) (by omega)
        have hf : w.heap.size + 1 < M1 ∨ C1 ≤ w.heap.size + 1 := by omega
        (repeat (with_reducible refine Ints.set_ ?_ (by omega) _))
        exact D3.out
      · simp only [World.size_setCell]
        refine Ints.more (lo := w1.heap.size) (hi := m) ?_ (by omega) (by omega)
        (repeat (with_reducible refine Ints.set_ ?_ (by omega) _))
        exact D3'.out
      · simp only [World.size_setCell]
        refine Ints.more (lo := M5) (hi := C5) ?_ (by omega) (by omega)
        (repeat (with_reducible refine Ints.set_ ?_ (by omega) _))
        exact D3r.out
end
section
open Go.ChangeShapes Go.WideShapes Go.ChangeAt Go.RowKit
set_option linter.unusedSimpArgs false
set_option linter.unusedVariables false
set_option maxRecDepth 10000

/-- What comes behind a region goes on in a world of which only F is known. -/
theorem wp_renameL {K : Exit → Act → World → Prop} {x : Exit} {a : Act} {W : World} (F : World → Prop) (hF : F W) (h : ∀ w2, F w2 → K x a w2) : K x a W := h W hF
theorem Ints.one_at {w : World} {lo hi n b o k : Nat} {xs : List Int} {x : Int} (h : Ints w lo hi (some ⟨b, o, none⟩) n xs) (hx : xs[k]? = some x) : Ints w lo hi (some ⟨b, o + k, none⟩) 1 [x] := by
  have hk := (List.getElem?_eq_some_iff.1 hx).1
  obtain ⟨b1, o1, e1, h1, h2, hc⟩ := h.2.2.2 (by have := h.len; omega)
  injection e1 with e1
  injection e1 with e2 e3 _
  subst e2; subst e3
  refine ⟨rfl, by omega, fun y hy => by simp at hy; subst hy; exact h.ok _ (List.mem_of_getElem? hx), fun _ => ⟨b, o + k, rfl, h1, h2, fun j y hy => ?_⟩⟩
  cases j with
  | zero => simp at hy; subst hy; exact hc k x hx
  | succ j => simp at hy
theorem tkGo_one {S : List Int} {z : Nat} {D : List Int} {p : Int} {q : Nat} {R : List Int} {x : Int} {T : Fv} (hT : tkStep S z D p q R = T) :
    (T.r.length = z → tkGo S z [x] D p q R = (T, 0)) ∧ (¬ T.r.length = z → tkGo S z [x] D p q R = (⟨T.d, T.p, T.q, T.r ++ [x], 0⟩, 1)) := by
  subst hT
  refine ⟨fun h => ?_, fun h => ?_⟩
  · simp only [tkGo]; rw [if_pos h]
  · simp only [tkGo]; rw [if_neg h]
set_option maxHeartbeats 16000000 in
theorem sFlushLines_row {A A' A2 AL : Option Addr} {n c n' c' n2 c2 nL cL q0 zn bd : Nat} {D S R L : List Int} {p : Int} {w : World} {M C L' B' M2 C2 LL BL : Nat} (h : Ints w M C A n D) (h' : Ints w L' B' A' n' S) (g : RowI w M2 C2 A2 n2 c2 R) (hl : Ints w LL BL AL nL L)
    (hC : C ≤ w.heap.size) (hB' : B' ≤ w.heap.size) (hC2 : C2 ≤ w.heap.size) (hBL : BL ≤ w.heap.size) (hap : Apart A2 n2 A n) (hCM : C ≤ M2) (hM2w : M2 ≤ w.heap.size) (hnc : n ≤ c) (hn' : n' ≤ c') (hnL : nL ≤ cL) (hz : 1 ≤ zn ∧ zn ≤ 16) (hb9 : bd ≤ 976) (hbz : 12 + zn + nL + 1 ≤ bd) (hok : TkOk S zn bd nL D p q0 R) (hL : allB L 0 255 = true) (hnL60 : nL ≤ 1000) :
    Calls Tryd.prog 58 #[.agg #[.slice (A) n c, .int .i64 (p), .slice (A') n' c', .int .i64 ((q0 : Int)), .slice (A2) n2 c2, .int .i64 ((zn : Int))], .slice AL nL cL] w (SWBPost A n A' n' c' zn M C M2 C2 (tkAll S zn 10 L D p q0 R).1 (tkAll S zn 10 L D p q0 R).2 w) := by
  obtain ⟨F, hF⟩ : ∃ F, (tkAll S zn 10 L D p q0 R).1 = F := ⟨_, rfl⟩
  obtain ⟨N, hN⟩ : ∃ N, (tkAll S zn 10 L D p q0 R).2 = N := ⟨_, rfl⟩
  rw [hF, hN]
  have HGO : Hid ((tkAll S zn 10 (L.drop 0) D p q0 R).1 = F ∧ (tkAll S zn 10 (L.drop 0) D p q0 R).2 + 0 = N) := ⟨hF, hN⟩
  have HOK : Hid (TkOk S zn bd (nL - 0) D p q0 R) := hok
  have HS := Lib.hid h'
  have HLS := Lib.hid hl
  have HLB := Lib.hid hL
  have hlL : nL ≤ L.length ∧ L.length ≤ nL := by have := hl.len; omega
  have D0 : Hid (Ints ((w.alloc (.cells #[.slice (A) n c, .int .i64 (p), .slice (A') n' c', .int .i64 ((q0 : Int)), .slice (A2) n2 c2, .int .i64 ((zn : Int))] 30)).alloc (.cells #[.slice none 0 0, .int .i64 0, .slice none 0 0, .int .i64 0, .slice none 0 0, .int .i64 0] 30)) M C A n D) := (h.alloc hC _).alloc (by first | omega | (simp; omega) | (simp; done)) _
  have G0 : Hid (RowI ((w.alloc (.cells #[.slice (A) n c, .int .i64 (p), .slice (A') n' c', .int .i64 ((q0 : Int)), .slice (A2) n2 c2, .int .i64 ((zn : Int))] 30)).alloc (.cells #[.slice none 0 0, .int .i64 0, .slice none 0 0, .int .i64 0, .slice none 0 0, .int .i64 0] 30)) M2 C2 A2 n2 c2 R) := (g.alloc hC2 _).alloc (by first | omega | (simp; omega) | (simp; done)) _
  have X0 : Hid (Box ((w.alloc (.cells #[.slice (A) n c, .int .i64 (p), .slice (A') n' c', .int .i64 ((q0 : Int)), .slice (A2) n2 c2, .int .i64 ((zn : Int))] 30)).alloc (.cells #[.slice none 0 0, .int .i64 0, .slice none 0 0, .int .i64 0, .slice none 0 0, .int .i64 0] 30)) w.heap.size [.slice (A) n c, .int .i64 (p), .slice (A') n' c', .int .i64 ((q0 : Int)), .slice (A2) n2 c2, .int .i64 ((zn : Int))]) := (Box.new w 30 [.slice (A) n c, .int .i64 (p), .slice (A') n' c', .int .i64 ((q0 : Int)), .slice (A2) n2 c2, .int .i64 ((zn : Int))]).alloc _
  have R0 : Hid (Box ((w.alloc (.cells #[.slice (A) n c, .int .i64 (p), .slice (A') n' c', .int .i64 ((q0 : Int)), .slice (A2) n2 c2, .int .i64 ((zn : Int))] 30)).alloc (.cells #[.slice none 0 0, .int .i64 0, .slice none 0 0, .int .i64 0, .slice none 0 0, .int .i64 0] 30)) (w.heap.size + 1) [.slice none 0 0, .int .i64 0, .slice none 0 0, .int .i64 0, .slice none 0 0, .int .i64 0]) := by
    have hx := Box.new (w.alloc (.cells #[.slice (A) n c, .int .i64 (p), .slice (A') n' c', .int .i64 ((q0 : Int)), .slice (A2) n2 c2, .int .i64 ((zn : Int))] 30)) 30 [.slice none 0 0, .int .i64 0, .slice none 0 0, .int .i64 0, .slice none 0 0, .int .i64 0]
    rw [World.size_alloc] at hx
    exact hx
  have E0 : Hid (Below w.heap.size w ((w.alloc (.cells #[.slice (A) n c, .int .i64 (p), .slice (A') n' c', .int .i64 ((q0 : Int)), .slice (A2) n2 c2, .int .i64 ((zn : Int))] 30)).alloc (.cells #[.slice none 0 0, .int .i64 0, .slice none 0 0, .int .i64 0, .slice none 0 0, .int .i64 0] 30))) := (by go_grown : Below w.heap.size w _)
  have s0 : ((w.alloc (.cells #[.slice (A) n c, .int .i64 (p), .slice (A') n' c', .int .i64 ((q0 : Int)), .slice (A2) n2 c2, .int .i64 ((zn : Int))] 30)).alloc (.cells #[.slice none 0 0, .int .i64 0, .slice none 0 0, .int .i64 0, .slice none 0 0, .int .i64 0] 30)).heap.size = w.heap.size + 2 := by simp
  clear h g hF hN h' hap hok hl hL
  go_enter Tryd.func58, Tryd.ntmps58
  go_upto_region 1 with (fail)
  refine wp_renameW (fun w0 => Hid (Ints w0 M C A n D) ∧ Hid (RowI w0 M2 C2 A2 n2 c2 R) ∧ Hid (Box w0 w.heap.size [.slice (A) n c, .int .i64 (p), .slice (A') n' c', .int .i64 ((q0 : Int)), .slice (A2) n2 c2, .int .i64 ((zn : Int))]) ∧ Hid (Box w0 (w.heap.size + 1) [.slice none 0 0, .int .i64 0, .slice none 0 0, .int .i64 0, .slice none 0 0, .int .i64 0]) ∧ Hid (Below w.heap.size w w0) ∧ w0.heap.size = w.heap.size + 2) ⟨D0, G0, X0, R0, E0, s0⟩ ?_
  clear D0 G0 X0 R0 E0 s0
  rintro w0 ⟨D0, G0, X0, R0, E0, s0⟩
  go_wp2
  go_loopw [7] (fun v wr => ∃ (j : Nat) (A1 : Option Addr) (n1 c1 : Nat) (D1 : List Int) (p1 : Int) (q1 : Nat) (A5 : Option Addr) (n5 c5 : Nat) (R1 : List Int) (M1 C1 M5 C5 : Nat), v = .int .i64 (j : Int) ∧ j ≤ nL ∧ n1 ≤ c1 ∧ w.heap.size + 2 ≤ wr.heap.size ∧ C1 ≤ wr.heap.size ∧ C5 ≤ wr.heap.size ∧ C1 ≤ M5 ∧ M5 ≤ wr.heap.size ∧ ((M1 = M ∧ C1 = C ∧ A1 = A ∧ n1 = n) ∨ w.heap.size + 2 ≤ M1) ∧ ((M5 = M2 ∧ C5 = C2) ∨ w.heap.size + 2 ≤ M5) ∧ Hid (Below w.heap.size w wr) ∧ Hid (Box wr w.heap.size [.slice (A1) n1 c1, .int .i64 (p1), .slice (A') n' c', .int .i64 ((q1 : Int)), .slice (A5) n5 c5, .int .i64 ((zn : Int))]) ∧ Hid (Box wr (w.heap.size + 1) [.slice none 0 0, .int .i64 0, .slice none 0 0, .int .i64 0, .slice none 0 0, .int .i64 0]) ∧ Hid (Ints wr M1 C1 A1 n1 D1) ∧ Hid (RowI wr M5 C5 A5 n5 c5 R1) ∧ Hid (TkOk S zn bd (nL - j) D1 p1 q1 R1) ∧ Hid ((tkAll S zn 10 (L.drop j) D1 p1 q1 R1).1 = F ∧ (tkAll S zn 10 (L.drop j) D1 p1 q1 R1).2 + j = N)) (fun v _ => nL - (intOf v).toNat)
  case atStart => exact ⟨0, A, n, c, D, p, q0, A2, n2, c2, R, M, C, M2, C2, rfl, Nat.zero_le _, hnc, by omega, by omega, by omega, hCM, by omega, .inl ⟨rfl, rfl, rfl, rfl⟩, .inl ⟨rfl, rfl⟩, E0, X0, R0, D0, G0, HOK, HGO⟩
  case round =>
    clear D0 G0 X0 R0 E0 s0 HGO HOK
    obtain ⟨j, A1, n1, c1, D1, p1, q1, A5, n5, c5, R1, M1, C1, M5, C5, rfl, hj, hc1, hsz, hC1, hC5, hM15, hM5w, hor1, hor5, hb, hX, hR0, hD, hR5, hok, hgo⟩ := hrel
    have hc5 := hR5.out.cap
    by_cases hlt : j < nL
    · obtain ⟨bl, ol, x, rfl, _, _, hx⟩ := HLS.out.at_ hlt
      have hj0 : (0 : Int) ≤ (j : Int) := by omega
      have hj1 : (j : Int) < (nL : Int) := by omega
      have hwj : IntKind.i64.wrap ((j : Int) + 1) = (j : Int) + 1 := IntWalk.i64_in _ (by omega)
      have hj2 : (j : Int) + 1 ≤ (cL : Int) := by omega
      have hj3 : (0 : Int) ≤ (j : Int) + 1 := by omega
      have hcj : ¬ cL = j := by omega
      have hjle : (j : Int) ≤ (j : Int) + 1 := by omega
      have hjt : ((j : Int) + 1).toNat = j + 1 := by omega
      have hjd : j + 1 - j = 1 := by omega
      have hx01 := allB_iff.1 HLB.out x (List.mem_of_getElem? hx.out)
      have hok2 : TkOk S zn bd ((nL - (j + 1)) + 1) D1 p1 q1 R1 := by have := hok.out; rwa [show nL - j = (nL - (j + 1)) + 1 by omega] at this
      obtain ⟨T, hT⟩ : ∃ T, tkStep S zn D1 p1 q1 R1 = T := ⟨_, rfl⟩
      obtain ⟨ga, gb, gc⟩ := tkAll_at hx.out hT hgo.out
      obtain ⟨k1, k2, k3, k4, k5, k6, k7⟩ := hok2.step hz (by omega) (by omega)
      rw [hT] at k1 k2 k3 k4 k5 k6 k7
      obtain ⟨t0, t1⟩ := tkGo_one (x := x) hT
      obtain ⟨v1, v2, v3, v4, v5⟩ := hok2
      have hok1 : TkOk S zn (bd - (nL - (j + 1))) 1 D1 p1 q1 R1 := ⟨v1, v2, v3, by omega, by rcases v5 with h | h; (exact .inl (by omega)); (exact .inr h)⟩
      have HCALL : ∀ X : World, Below wr.heap.size wr X → wr.heap.size ≤ X.heap.size → Calls Tryd.prog 51 #[.agg #[.slice (A1) n1 c1, .int .i64 (p1), .slice (A') n' c', .int .i64 ((q1 : Int)), .slice (A5) n5 c5, .int .i64 ((zn : Int))], .slice (some ⟨bl, ol + j, none⟩) 1 (cL - j)] X (SWBPost A1 n1 A' n' c' zn M1 C1 M5 C5 (tkGo S zn [x] D1 p1 q1 R1).1 (tkGo S zn [x] D1 p1 q1 R1).2 X) := fun X hX hXs =>
        sWriteBytes_row (b := bd - (nL - (j + 1))) (hD.out.below hX hC1) ((HS.out.below hb.out hB').below hX (by have := hb.out.size; omega)) (hR5.out.below hX hC5) (((HLS.out.below hb.out hBL).below hX (by have := hb.out.size; omega)).one_at hx.out) (by omega) (by have := hb.out.size; omega) (by omega) (by have := hb.out.size; omega) (Apart.of_le hD.out hR5.out.ints hM15).symm hM15 (by omega) hc1 hn' (by omega) hz (by omega) (by omega) hok1 (by simp [allB, inB]; omega) (by omega)
      have GA := Lib.hid ga; have GB := Lib.hid gb; have GC := Lib.hid gc; have K6 := Lib.hid k6; have T0 := Lib.hid t0; have T1 := Lib.hid t1; have CALL0 := Lib.hid HCALL
      have hcl : wr.cell? ⟨bl, ol + j, none⟩ = some (.int .i64 x) := Ints.cellAt (HLS.out.below hb.out hBL) hx.out
      have HCL := Lib.hid hcl
      clear hok hgo ga gb gc k6 k7 t0 t1 HCALL hok1 v1 v2 v3 v4 v5 hcl k1 k2 hT
      have hgt : ∃ (U : Fv) (NN : Nat), tkGo S zn [x] D1 p1 q1 R1 = (U, NN) ∧ ((T.r.length = zn ∧ U = T ∧ NN = 0) ∨ (¬ T.r.length = zn ∧ U = ⟨T.d, T.p, T.q, T.r ++ [x], 0⟩ ∧ NN = 1)) := by
        by_cases hf : T.r.length = zn
        · exact ⟨_, _, T0.out hf, .inl ⟨hf, rfl, rfl⟩⟩
        · exact ⟨_, _, T1.out hf, .inr ⟨hf, rfl, rfl⟩⟩
      obtain ⟨U, NN, hU, hUor⟩ := hgt
      have HUOR := Lib.hid hUor
      have CALL : Hid (∀ X : World, Below wr.heap.size wr X → wr.heap.size ≤ X.heap.size → Calls Tryd.prog 51 #[.agg #[.slice (A1) n1 c1, .int .i64 (p1), .slice (A') n' c', .int .i64 ((q1 : Int)), .slice (A5) n5 c5, .int .i64 ((zn : Int))], .slice (some ⟨bl, ol + j, none⟩) 1 (cL - j)] X (SWBPost A1 n1 A' n' c' zn M1 C1 M5 C5 U NN X)) := fun X hX hXs => by
        have h := CALL0.out X hX hXs
        rw [hU] at h
        exact h
      clear hU hUor CALL0 T0 T1
      have hXl := hX.out.lt
      have x0 := (hX.out.2 0 _ rfl).1; have x1 := (hX.out.2 1 _ rfl).1; have x2 := (hX.out.2 2 _ rfl).1; have x3 := (hX.out.2 3 _ rfl).1; have x4 := (hX.out.2 4 _ rfl).1; have x5 := (hX.out.2 5 _ rfl).1
      go_upto_region 4 with (fail)
      go_cut [8, 9, 10] (fun s8 s9 s10 w2 => ∃ (bx : Nat) (A6 : Option Addr) (n6 c6 : Nat) (A7 : Option Addr) (n7 c7 M6 C6 M7 C7 : Nat), s8 = .pointer (some ⟨bx, 0, none⟩) ∧ s9 = .int .i64 (NN : Int) ∧ s10 = .int .i64 U.st ∧ (n6 ≤ c6 ∧ n7 ≤ c7) ∧ C6 ≤ M7 ∧ ((M6 = M ∧ C6 = C ∧ A6 = A ∧ n6 = n) ∨ w.heap.size + 2 ≤ M6) ∧ ((M7 = M2 ∧ C7 = C2) ∨ w.heap.size + 2 ≤ M7) ∧ Hid (Below wr.heap.size wr w2) ∧ Hid (Ints w2 M6 C6 A6 n6 U.d) ∧ Hid (RowI w2 M7 C7 A7 n7 c7 U.r) ∧ Hid (Box w2 bx [.slice A6 n6 c6, .int .i64 U.p, .slice A' n' c', .int .i64 (U.q : Int), .slice A7 n7 c7, .int .i64 (zn : Int)]) ∧ wr.heap.size ≤ bx ∧ C6 ≤ w2.heap.size ∧ C7 ≤ w2.heap.size ∧ M7 ≤ w2.heap.size)
      case first =>
        go_region_law (first | (go_simp; go_at_call 51; (with_reducible refine (CALL.out _ (by go_grown) (by go_grown)).mono ?_); rintro e wx ⟨A6, n6, c6, A7, n7, c7, M6, C6, M7, C7, rfl, ⟨hc6, hc7⟩, hb, hi6, hi7, ⟨hM67, hC7, hM7w⟩, hor6, hor7⟩; have sx0 := hb.size; (try simp only [World.size_alloc, World.size_setCell, World.size_drew] at sx0 hor6 hor7); have HBX : Hid (Below wr.heap.size wr wx) := below_step hb (by go_grown) (by first | omega | (simp; omega) | (simp; done)); (first | (have ZB : Hid (Box wx wr.heap.size [.slice none 0 0, .int .i64 0, .slice none 0 0, .int .i64 0, .slice none 0 0, .int .i64 0]) := (by show Box _ _ _; first | (have hx := Box.below (Box.new wr 30 [.slice none 0 0, .int .i64 0, .slice none 0 0, .int .i64 0, .slice none 0 0, .int .i64 0]) hb (by first | omega | (simp; omega) | (simp; done)); first | exact hx | simpa using hx) | (have hx := Box.below (Box.drew (Box.new wr 30 [.slice none 0 0, .int .i64 0, .slice none 0 0, .int .i64 0, .slice none 0 0, .int .i64 0])) hb (by first | omega | (simp; omega) | (simp; done)); first | exact hx | simpa using hx)); obtain ⟨bx, hbx⟩ : ∃ bx : Nat, bx = wr.heap.size := ⟨_, rfl⟩; have zr0 := (ZB.out.2 0 _ rfl).1; have zr1 := (ZB.out.2 1 _ rfl).1; have zr2 := (ZB.out.2 2 _ rfl).1; have zr3 := (ZB.out.2 3 _ rfl).1; have zr4 := (ZB.out.2 4 _ rfl).1; have zr5 := (ZB.out.2 5 _ rfl).1; have zf0 := (ZB.out.2 0 _ rfl).2; have zf1 := (ZB.out.2 1 _ rfl).2; have zf2 := (ZB.out.2 2 _ rfl).2; have zf3 := (ZB.out.2 3 _ rfl).2; have zf4 := (ZB.out.2 4 _ rfl).2; have zf5 := (ZB.out.2 5 _ rfl).2) | (obtain ⟨bx, hbx⟩ : ∃ bx : Nat, bx = wx.heap.size := ⟨_, rfl⟩)); have D9 := Lib.hid hi6; have R9 := Lib.hid hi7; clear hi6 hi7 hb))
        all_goals
          (try go_wp2_with fail)
        all_goals go_meet
        all_goals
          have hor6b : (M6 = M ∧ C6 = C ∧ A6 = A ∧ n6 = n) ∨ w.heap.size + 2 ≤ M6 := by rcases hor6 with ⟨rfl, rfl, rfl, rfl⟩ | h; (exact hor1); (exact .inr (by omega))
          have hor7b : (M7 = M2 ∧ C7 = C2) ∨ w.heap.size + 2 ≤ M7 := by rcases hor7 with ⟨rfl, rfl⟩ | h; (exact hor5); (exact .inr (by omega))
          refine ⟨_, A6, n6, c6, A7, n7, c7, M6, C6, M7, C7, rfl, rfl, rfl, ⟨hc6, hc7⟩, hM67, hor6b, hor7b, ?_, ?_, ?_, ?_, by omega, ?_, ?_, ?_⟩
          · show Below _ _ _
            repeat (first | (with_reducible refine below_set ?_ (by omega) _) | (with_reducible refine Below.alloc ?_ (by omega) _) | (with_reducible refine Below.drew ?_))
            exact HBX.out
          · show Ints _ _ _ _ _ _
            first
              | with_reducible exact Ints.alloc D9.out (by omega) _
              | (have hfx : wr.heap.size < M6 ∨ C6 ≤ wr.heap.size := (by rcases hor6 with ⟨rfl, rfl, _⟩ | h <;> omega); (repeat (with_reducible refine Ints.set_ ?_ (by omega) _)); with_reducible exact D9.out)
          · show RowI _ _ _ _ _ _ _
            first
              | with_reducible exact RowI.alloc R9.out (by omega) _
              | (have hfx : wr.heap.size < M7 ∨ C7 ≤ wr.heap.size := (by rcases hor7 with ⟨rfl, rfl⟩ | h <;> omega); (repeat (with_reducible refine RowI.set_ ?_ (by omega) _)); with_reducible exact R9.out)
          · show Box _ _ _
            subst hbx
            first
              | with_reducible exact Box.new wx 30 [.slice A6 n6 c6, .int .i64 U.p, .slice A' n' c', .int .i64 (U.q : Int), .slice A7 n7 c7, .int .i64 (zn : Int)]
              | (have hx := ((((((ZB.out.put (i := 0) (by simp) (.slice A6 n6 c6)).put (i := 1) (by simp) (.int .i64 U.p)).put (i := 2) (by simp) (.slice A' n' c')).put (i := 3) (by simp) (.int .i64 (U.q : Int))).put (i := 4) (by simp) (.slice A7 n7 c7)).put (i := 5) (by simp) (.int .i64 (zn : Int))); simpa using hx)
          · first | omega | (simp only [World.size_setCell, World.size_alloc, World.size_drew]; omega)
          · first | omega | (simp only [World.size_setCell, World.size_alloc, World.size_drew]; omega)
          · first | omega | (simp only [World.size_setCell, World.size_alloc, World.size_drew]; omega)
      case rest =>
        obtain ⟨bx, A6, n6, c6, A7, n7, c7, M6, C6, M7, C7, rfl, rfl, rfl, ⟨hc6, hc7⟩, hM67, hor6b, hor7b, HB2, D2, W2, Y2, hbx0, hC6w, hC7w, hM7w⟩ := hcut
        obtain ⟨w2, rfl⟩ : ∃ w2, w2 = wc := ⟨_, rfl⟩
        clear x0 x1 x2 x3 x4 x5
        have s2 := HB2.out.size
        have hbxl := Y2.out.lt
        have X2 := Lib.hid (hX.out.below HB2.out (by omega)); have R02 := Lib.hid (hR0.out.below HB2.out (by omega)); have E2 := Lib.hid (hb.out.trans (HB2.out.mono (by omega)))
        have kL2 : Hid (Ints w2 LL BL (some ⟨bl, ol, none⟩) nL L) := (HLS.out.below hb.out hBL).below HB2.out (by have := hb.out.size; omega)
        clear HB2 HCL CALL hX hR0 hb hD hR5
        have hf6 : w.heap.size < M6 ∨ C6 ≤ w.heap.size := by rcases hor6b with ⟨_, rfl, _⟩ | h <;> omega
        have hf7 : w.heap.size < M7 ∨ C7 ≤ w.heap.size := by rcases hor7b with ⟨_, rfl⟩ | h <;> omega
        have y0 := (Y2.out.2 0 _ rfl).1; have y1 := (Y2.out.2 1 _ rfl).1; have y2 := (Y2.out.2 2 _ rfl).1; have y3 := (Y2.out.2 3 _ rfl).1; have y4 := (Y2.out.2 4 _ rfl).1; have y5 := (Y2.out.2 5 _ rfl).1
        have x0 := (X2.out.2 0 _ rfl).1; have x1 := (X2.out.2 1 _ rfl).1; have x2 := (X2.out.2 2 _ rfl).1; have x3 := (X2.out.2 3 _ rfl).1; have x4 := (X2.out.2 4 _ rfl).1; have x5 := (X2.out.2 5 _ rfl).1
        have f0 := (X2.out.2 0 _ rfl).2; have f1 := (X2.out.2 1 _ rfl).2; have f2 := (X2.out.2 2 _ rfl).2; have f3 := (X2.out.2 3 _ rfl).2; have f4 := (X2.out.2 4 _ rfl).2; have f5 := (X2.out.2 5 _ rfl).2
        go_upto_region 6 with (fail)
        clear y0 y1 y2 y3 y4 y5
        clear x0 x1 x2 x3 x4 x5
        clear f0 f1 f2 f3 f4 f5
        have hX3 := (((((X2.out.put (i := 0) (by simp) (.slice A6 n6 c6)).put (i := 1) (by simp) (.int .i64 U.p)).put (i := 2) (by simp) (.slice A' n' c')).put (i := 3) (by simp) (.int .i64 (U.q : Int))).put (i := 4) (by simp) (.slice A7 n7 c7)).put (i := 5) (by simp) (.int .i64 (zn : Int))
        refine wp_renameW (fun w3 => Hid (Box w3 w.heap.size [.slice A6 n6 c6, .int .i64 U.p, .slice A' n' c', .int .i64 (U.q : Int), .slice A7 n7 c7, .int .i64 (zn : Int)]) ∧ Hid (Box w3 (w.heap.size + 1) [.slice none 0 0, .int .i64 0, .slice none 0 0, .int .i64 0, .slice none 0 0, .int .i64 0]) ∧ Hid (Below w.heap.size w w3) ∧ Hid (Ints w3 M6 C6 A6 n6 U.d) ∧ Hid (RowI w3 M7 C7 A7 n7 c7 U.r) ∧ Hid (Ints w3 LL BL (some ⟨bl, ol, none⟩) nL L) ∧ w2.heap.size ≤ w3.heap.size) ⟨by show Box _ _ _; simpa using hX3, ?_, ?_, ?_, ?_, ?_, by simp⟩ ?_
        · show Box _ _ _
          (repeat (with_reducible refine Box.set_ ?_ (by omega) _))
          exact R02.out
        · show Below _ _ _
          (repeat (with_reducible refine below_set ?_ (by omega) _))
          exact E2.out
        · show Ints _ _ _ _ _ _
          (repeat (with_reducible refine Ints.set_ ?_ (by omega) _))
          exact D2.out
        · show RowI _ _ _ _ _ _ _
          (repeat (with_reducible refine RowI.set_ ?_ (by omega) _))
          exact W2.out
        · show Ints _ _ _ _ _ _
          (repeat (with_reducible refine Ints.set_ ?_ (by omega) _))
          exact kL2.out
        clear hX3 Y2 X2 R02 E2 D2 W2 kL2
        rintro w3 ⟨X3, R03, E3, D3, W3, kL3, s3⟩
        clear hjt hjd hjle hcj hj2 hj3
        rcases HUOR.out with ⟨hfull, rfl, rfl⟩ | ⟨hfull, rfl, rfl⟩
        · obtain ⟨rfl, rfl⟩ := GA.out hfull
          clear hfull k3 k4 k5 GA GB GC K6 HUOR
          have x0 := (X3.out.2 0 _ rfl).1; have x1 := (X3.out.2 1 _ rfl).1; have x2 := (X3.out.2 2 _ rfl).1; have x3 := (X3.out.2 3 _ rfl).1; have x4 := (X3.out.2 4 _ rfl).1; have x5 := (X3.out.2 5 _ rfl).1
          have r0 := (R03.out.2 0 _ rfl).1; have r1 := (R03.out.2 1 _ rfl).1; have r2 := (R03.out.2 2 _ rfl).1; have r3 := (R03.out.2 3 _ rfl).1; have r4 := (R03.out.2 4 _ rfl).1; have r5 := (R03.out.2 5 _ rfl).1
          have g0 := (R03.out.2 0 _ rfl).2; have g1 := (R03.out.2 1 _ rfl).2; have g2 := (R03.out.2 2 _ rfl).2; have g3 := (R03.out.2 3 _ rfl).2; have g4 := (R03.out.2 4 _ rfl).2; have g5 := (R03.out.2 5 _ rfl).2
          go_wp2
          refine bodyPost_ret (v := .tuple #[.agg #[.slice (A6) n6 c6, .int .i64 (F.p), .slice (A') n' c', .int .i64 ((F.q : Int)), .slice (A7) n7 c7, .int .i64 ((zn : Int))], .int .i64 ((N : Int)), .int .i64 F.st]) (by simp [results, Tryd.results58, go_sem, r0, r1, r2, r3, r4, r5, g0, g1, g2, g3, g4, g5]) rfl ?_
          refine ⟨A6, n6, c6, A7, n7, c7, M6, C6, M7, C7, rfl, ⟨hc6, hc7⟩, ?_, ?_, ?_, ⟨hM67, by simp only [World.size_setCell]; omega, by simp only [World.size_setCell]; omega⟩, ?_, ?_⟩
          · (repeat (with_reducible refine below_set ?_ (by omega) _))
            exact E3.out
          · have hf : w.heap.size + 1 < M6 ∨ C6 ≤ w.heap.size + 1 := by rcases hor6b with ⟨_, rfl, _⟩ | h <;> omega
            (repeat (with_reducible refine Ints.set_ ?_ (by omega) _))
            exact D3.out
          · have hf : w.heap.size + 1 < M7 ∨ C7 ≤ w.heap.size + 1 := by rcases hor7b with ⟨_, rfl⟩ | h <;> omega
            (repeat (with_reducible refine RowI.set_ ?_ (by omega) _))
            exact W3.out
          · rcases hor6b with h | h
            · exact .inl h
            · exact .inr (by omega)
          · rcases hor7b with h | h
            · exact .inl h
            · exact .inr (by omega)
        · have HK1 := Lib.hid (K6.out hfull x hx01.1 hx01.2)
          have kL := Ints.cellAt kL3.out hx.out
          have HFN := Lib.hid hfull
          by_cases hxe : x = 10
          · subst hxe
            obtain ⟨V, hV⟩ : ∃ V, fuGo S (T.r ++ [10]).length T.d T.p T.q (T.r ++ [10]) = V := ⟨_, rfl⟩
            obtain ⟨gu0, gu1⟩ := GC.out hfull rfl V hV
            obtain ⟨f1, f2, f3, f4, f5, f6⟩ := HK1.out.flush hz (by omega) (by omega)
            obtain ⟨v1, v2, v3, v4, v5⟩ := HK1.out
            have hfl := flushed_row (c := c6) (c' := c') (z := (zn : Int)) (show Ints _ _ _ _ _ T.d from D3.out) (HS.out.below E3.out hB') (show RowI _ _ _ _ _ _ (T.r ++ [10]) from W3.out) (by omega) (by have := E3.out.size; omega) (by omega) (Apart.of_le D3.out W3.out.ints hM67).symm hM67 (by omega) hc6 hc7 v1 (by omega) (by omega) v2
            rw [hV] at hfl f1 f2 f3 f4 f5 f6
            have HFL := Lib.hid hfl; have GU0 := Lib.hid gu0; have GU1 := Lib.hid gu1; have F6 := Lib.hid f6
            clear hV gu0 gu1 f1 f2 f6 v1 v2 v4 v5 hfl GA GB GC HK1 K6 HUOR
            have x0 := (X3.out.2 0 _ rfl).1; have x1 := (X3.out.2 1 _ rfl).1; have x2 := (X3.out.2 2 _ rfl).1; have x3 := (X3.out.2 3 _ rfl).1; have x4 := (X3.out.2 4 _ rfl).1; have x5 := (X3.out.2 5 _ rfl).1
            go_wp2_with fail
            clear x0 x1 x2 x3 x4 x5
            with_reducible refine HFL.out.mono ?_
            rintro e w4 ⟨A8, n8, c8, A9, n9, c9, M8, C8, M9, C9, rfl, ⟨hc8, hc9⟩, hb4, ⟨hi8, hi9⟩, ⟨hC8, hC9, hM89, hM9w⟩, hor8, hor9, _⟩
            have s4 := hb4.size
            have X4 := Lib.hid (X3.out.below hb4 (by omega)); have R04 := Lib.hid (R03.out.below hb4 (by omega)); have E4 := Lib.hid (E3.out.trans (hb4.mono (by omega))); have D4 := Lib.hid hi8; have W4 := Lib.hid hi9; have kL4 : Hid True := trivial
            have hor8b : (M8 = M ∧ C8 = C ∧ A8 = A ∧ n8 = n) ∨ w.heap.size + 2 ≤ M8 := by rcases hor8 with ⟨rfl, rfl, rfl, rfl⟩ | h; (exact hor6b); (exact .inr (by omega))
            have hor9b : (M9 = M2 ∧ C9 = C2) ∨ w.heap.size + 2 ≤ M9 := by rcases hor9 with ⟨_, _, _, rfl, rfl⟩ | h; (exact hor7b); (exact .inr (by omega))
            have hf8 : w.heap.size < M8 ∨ C8 ≤ w.heap.size := by rcases hor8b with ⟨_, rfl, _⟩ | h <;> omega
            have hf9 : w.heap.size < M9 ∨ C9 ≤ w.heap.size := by rcases hor9b with ⟨_, rfl⟩ | h <;> omega
            clear hb4 hi8 hi9 hor8 hor9 X3 R03 E3 D3 W3 HFL kL kL3
            go_upto_region 10 with (fail)
            refine wp_renameW (fun w5 => Hid (Box w5 w4.heap.size [.slice (A8) n8 c8, .int .i64 (V.p), .slice (A') n' c', .int .i64 ((V.q : Int)), .slice (A9) n9 c9, .int .i64 ((zn : Int))]) ∧ Hid (Box w5 w.heap.size [.slice (A6) n6 c6, .int .i64 (T.p), .slice (A') n' c', .int .i64 ((T.q : Int)), .slice (A7) n7 c7, .int .i64 ((zn : Int))]) ∧ Hid (Box w5 (w.heap.size + 1) [.slice none 0 0, .int .i64 0, .slice none 0 0, .int .i64 0, .slice none 0 0, .int .i64 0]) ∧ Hid (Below w.heap.size w w5) ∧ Hid (Ints w5 M8 C8 A8 n8 V.d) ∧ Hid (RowI w5 M9 C9 A9 n9 c9 V.r) ∧ w4.heap.size < w5.heap.size) ⟨Box.new w4 30 [.slice (A8) n8 c8, .int .i64 (V.p), .slice (A') n' c', .int .i64 ((V.q : Int)), .slice (A9) n9 c9, .int .i64 ((zn : Int))], X4.out.alloc _, R04.out.alloc _, E4.out.alloc (by have := E4.out.size; omega) _, D4.out.alloc hC8 _, W4.out.alloc hC9 _, by simp⟩ ?_
            clear X4 R04 E4 D4 W4
            rintro w5 ⟨Y5, X5, R05, E5, D5, W5, s5⟩
            have y0 := (Y5.out.2 0 _ rfl).1; have y1 := (Y5.out.2 1 _ rfl).1; have y2 := (Y5.out.2 2 _ rfl).1; have y3 := (Y5.out.2 3 _ rfl).1; have y4 := (Y5.out.2 4 _ rfl).1; have y5 := (Y5.out.2 5 _ rfl).1
            have x0 := (X5.out.2 0 _ rfl).1; have x1 := (X5.out.2 1 _ rfl).1; have x2 := (X5.out.2 2 _ rfl).1; have x3 := (X5.out.2 3 _ rfl).1; have x4 := (X5.out.2 4 _ rfl).1; have x5 := (X5.out.2 5 _ rfl).1
            have f0 := (X5.out.2 0 _ rfl).2; have f1 := (X5.out.2 1 _ rfl).2; have f2 := (X5.out.2 2 _ rfl).2; have f3 := (X5.out.2 3 _ rfl).2; have f4 := (X5.out.2 4 _ rfl).2; have f5 := (X5.out.2 5 _ rfl).2
            go_upto_region 11 with (fail)
            clear y0 y1 y2 y3 y4 y5
            clear x0 x1 x2 x3 x4 x5
            clear f0 f1 f2 f3 f4 f5
            have hX6 := (((((X5.out.put (i := 0) (by simp) (.slice A8 n8 c8)).put (i := 1) (by simp) (.int .i64 V.p)).put (i := 2) (by simp) (.slice A' n' c')).put (i := 3) (by simp) (.int .i64 (V.q : Int))).put (i := 4) (by simp) (.slice A9 n9 c9)).put (i := 5) (by simp) (.int .i64 (zn : Int))
            refine wp_renameW (fun w6 => Hid (Box w6 w.heap.size [.slice (A8) n8 c8, .int .i64 (V.p), .slice (A') n' c', .int .i64 ((V.q : Int)), .slice (A9) n9 c9, .int .i64 ((zn : Int))]) ∧ Hid (Box w6 (w.heap.size + 1) [.slice none 0 0, .int .i64 0, .slice none 0 0, .int .i64 0, .slice none 0 0, .int .i64 0]) ∧ Hid (Below w.heap.size w w6) ∧ Hid (Ints w6 M8 C8 A8 n8 V.d) ∧ Hid (RowI w6 M9 C9 A9 n9 c9 V.r) ∧ w4.heap.size < w6.heap.size) ⟨by show Box _ _ _; simpa using hX6, ?_, ?_, ?_, ?_, ?_⟩ ?_
            · show Box _ _ _
              (repeat (with_reducible refine Box.set_ ?_ (by omega) _))
              exact R05.out
            · show Below _ _ _
              (repeat (with_reducible refine below_set ?_ (by omega) _))
              exact E5.out
            · show Ints _ _ _ _ _ _
              (repeat (with_reducible refine Ints.set_ ?_ (by omega) _))
              exact D5.out
            · show RowI _ _ _ _ _ _ _
              (repeat (with_reducible refine RowI.set_ ?_ (by omega) _))
              exact W5.out
            · simp only [World.size_setCell]; omega
            clear hX6 Y5 X5 R05 E5 D5 W5 s5
            rintro w6 ⟨X6, R06, E6, D6, W6, s6⟩
            by_cases hu0 : V.st = 0
            · have HGU := Lib.hid (GU0.out hu0)
              have HKU := Lib.hid (F6.out hu0)
              have hu1 : (V.st != 0) = false := by simp [hu0]
              rw [hu0]
              clear GU0 GU1 F6 hu0 hu1
              go_wp2
              go_roundw
              case rel => exact ⟨j + 1, A8, n8, c8, V.d, V.p, V.q, A9, n9, c9, V.r, M8, C8, M9, C9, by go_num, by omega, hc8, by omega, by omega, by omega, hM89, by omega, hor8b, hor9b, E6, X6, R06, D6, W6, HKU, HGU⟩
              case measure => simp [intOf]; omega
            · obtain ⟨hF, hN⟩ := GU1.out hu0
              have hu1 : (V.st != 0) = true := by simp [hu0]
              have hu2 : (V.st == 0) = false := by simp [hu0]
              clear GU0 GU1 F6
              subst hF; subst hN
              have x0 := (X6.out.2 0 _ rfl).1; have x1 := (X6.out.2 1 _ rfl).1; have x2 := (X6.out.2 2 _ rfl).1; have x3 := (X6.out.2 3 _ rfl).1; have x4 := (X6.out.2 4 _ rfl).1; have x5 := (X6.out.2 5 _ rfl).1
              have r0 := (R06.out.2 0 _ rfl).1; have r1 := (R06.out.2 1 _ rfl).1; have r2 := (R06.out.2 2 _ rfl).1; have r3 := (R06.out.2 3 _ rfl).1; have r4 := (R06.out.2 4 _ rfl).1; have r5 := (R06.out.2 5 _ rfl).1
              have g0 := (R06.out.2 0 _ rfl).2; have g1 := (R06.out.2 1 _ rfl).2; have g2 := (R06.out.2 2 _ rfl).2; have g3 := (R06.out.2 3 _ rfl).2; have g4 := (R06.out.2 4 _ rfl).2; have g5 := (R06.out.2 5 _ rfl).2
              go_wp2
              refine bodyPost_ret (v := .tuple #[.agg #[.slice (A8) n8 c8, .int .i64 (F.p), .slice (A') n' c', .int .i64 ((F.q : Int)), .slice (A9) n9 c9, .int .i64 ((zn : Int))], .int .i64 (((j + 1 : Nat) : Int)), .int .i64 F.st]) (by simp [results, Tryd.results58, go_sem, r0, r1, r2, r3, r4, r5, g0, g1, g2, g3, g4, g5]) rfl ?_
              refine ⟨A8, n8, c8, A9, n9, c9, M8, C8, M9, C9, rfl, ⟨hc8, hc9⟩, ?_, ?_, ?_, ⟨hM89, by simp only [World.size_setCell]; omega, by simp only [World.size_setCell]; omega⟩, ?_, ?_⟩
              · (repeat (with_reducible refine below_set ?_ (by omega) _))
                exact E6.out
              · have hf : w.heap.size + 1 < M8 ∨ C8 ≤ w.heap.size + 1 := by rcases hor8b with ⟨_, rfl, _⟩ | h <;> omega
                (repeat (with_reducible refine Ints.set_ ?_ (by omega) _))
                exact D6.out
              · have hf : w.heap.size + 1 < M9 ∨ C9 ≤ w.heap.size + 1 := by rcases hor9b with ⟨_, rfl⟩ | h <;> omega
                (repeat (with_reducible refine RowI.set_ ?_ (by omega) _))
                exact W6.out
              · rcases hor8b with h | h
                · exact .inl h
                · exact .inr (by omega)
              · rcases hor9b with h | h
                · exact .inl h
                · exact .inr (by omega)
          · have hxe2 : (x == 10) = false := by simp [hxe]
            have HGB := Lib.hid (GB.out hfull hxe)
            clear GA GB GC K6 HUOR
            go_wp2
            go_roundw
            case rel => exact ⟨j + 1, A6, n6, c6, T.d, T.p, T.q, A7, n7, c7, T.r ++ [x], M6, C6, M7, C7, by go_num, by omega, hc6, by omega, by omega, by omega, hM67, by omega, hor6b, hor7b, E3, X3, R03, D3, W3, HK1, HGB⟩
            case measure => simp [intOf]; omega
    · obtain rfl : j = nL := by omega
      have hgo2 := hgo.out
      rw [List.drop_of_length_le (by omega)] at hgo2
      have hF : F = ⟨D1, p1, q1, R1, 0⟩ := hgo2.1.symm
      have hN : N = j := by have := hgo2.2; simp [tkAll] at this; omega
      clear hlL
      subst hF; subst hN
      clear hgo2 hgo
      have hni : ¬ (N : Int) < (N : Int) := by omega
      have x0 := (hX.out.2 0 _ rfl).1; have x1 := (hX.out.2 1 _ rfl).1; have x2 := (hX.out.2 2 _ rfl).1; have x3 := (hX.out.2 3 _ rfl).1; have x4 := (hX.out.2 4 _ rfl).1; have x5 := (hX.out.2 5 _ rfl).1
      have r0 := (hR0.out.2 0 _ rfl).1; have r1 := (hR0.out.2 1 _ rfl).1; have r2 := (hR0.out.2 2 _ rfl).1; have r3 := (hR0.out.2 3 _ rfl).1; have r4 := (hR0.out.2 4 _ rfl).1; have r5 := (hR0.out.2 5 _ rfl).1
      have g0 := (hR0.out.2 0 _ rfl).2; have g1 := (hR0.out.2 1 _ rfl).2; have g2 := (hR0.out.2 2 _ rfl).2; have g3 := (hR0.out.2 3 _ rfl).2; have g4 := (hR0.out.2 4 _ rfl).2; have g5 := (hR0.out.2 5 _ rfl).2
      go_wp2
      refine bodyPost_ret (v := .tuple #[.agg #[.slice (A1) n1 c1, .int .i64 (p1), .slice (A') n' c', .int .i64 ((q1 : Int)), .slice (A5) n5 c5, .int .i64 ((zn : Int))], .int .i64 ((N : Int)), .int .i64 0]) (by simp [results, Tryd.results58, go_sem, r0, r1, r2, r3, r4, r5, g0, g1, g2, g3, g4, g5]) rfl ?_
      refine ⟨A1, n1, c1, A5, n5, c5, M1, C1, M5, C5, rfl, ⟨hc1, hc5⟩, ?_, ?_, ?_, ⟨hM15, by simp only [World.size_setCell]; omega, by simp only [World.size_setCell]; omega⟩, ?_, ?_⟩
      · (repeat (with_reducible refine below_set ?_ (by omega) _))
        exact hb.out
      · have hf : w.heap.size + 1 < M1 ∨ C1 ≤ w.heap.size + 1 := by rcases hor1 with ⟨_, rfl, _⟩ | h <;> omega
        (repeat (with_reducible refine Ints.set_ ?_ (by omega) _))
        exact hD.out
      · have hf : w.heap.size + 1 < M5 ∨ C5 ≤ w.heap.size + 1 := by rcases hor5 with ⟨_, rfl⟩ | h <;> omega
        (repeat (with_reducible refine RowI.set_ ?_ (by omega) _))
        exact hR5.out
      · rcases hor1 with h | h
        · exact .inl h
        · exact .inr (by omega)
      · rcases hor5 with h | h
        · exact .inl h
        · exact .inr (by omega)
set_option maxHeartbeats 8000000 in
theorem SWriteLines_x {A A' A2 AL : Option Addr} {n c n' c' n2 c2 nL cL : Nat} {D S R L : List Int} {p q z : Int} {w : World} {L0 L' B B' M C LL BL : Nat} (h : Ints w L0 B A n D) (h' : Ints w L' B' A' n' S) (g : Ints w M C A2 n2 R) (hl : Ints w LL BL AL nL L) (hB : B ≤ w.heap.size) (hB' : B' ≤ w.heap.size) (hC : C ≤ w.heap.size) (hBL : BL ≤ w.heap.size) (hc : n ≤ c) (hc1 : n' ≤ c') (hc2 : n2 ≤ c2) (hcL : nL ≤ cL) (_hn : n ≤ 1048576) (_hn1 : n' ≤ 1048576) (_hn2 : n2 ≤ 1048576) (_hnL : nL ≤ 1048576) :
    Calls Tryd.prog 22 #[.agg #[.slice (A) n c, .int .i64 (p), .slice (A') n' c', .int .i64 (q), .slice (A2) n2 c2, .int .i64 (z)], .slice AL nL cL] w (Post3W (wbOut D p S q R z 10 L) w) := by
  have HG := Lib.hid g.len
  have HL := Lib.hid h.len
  have HL' := Lib.hid h'.len
  have HLL := Lib.hid hl.len
  have H1 : Hid (Ints ((w.alloc (.cells #[.slice (A) n c, .int .i64 (p), .slice (A') n' c', .int .i64 (q), .slice (A2) n2 c2, .int .i64 (z)] 30)).alloc (.cells #[.slice none 0 0, .int .i64 0, .slice none 0 0, .int .i64 0, .slice none 0 0, .int .i64 0] 30)) L0 B A n D) := (h.alloc hB _).alloc (by first | omega | (simp; omega) | (simp; done)) _
  have H2 : Hid (Ints ((w.alloc (.cells #[.slice (A) n c, .int .i64 (p), .slice (A') n' c', .int .i64 (q), .slice (A2) n2 c2, .int .i64 (z)] 30)).alloc (.cells #[.slice none 0 0, .int .i64 0, .slice none 0 0, .int .i64 0, .slice none 0 0, .int .i64 0] 30)) L' B' A' n' S) := (h'.alloc hB' _).alloc (by first | omega | (simp; omega) | (simp; done)) _
  have G1 : Hid (Ints ((w.alloc (.cells #[.slice (A) n c, .int .i64 (p), .slice (A') n' c', .int .i64 (q), .slice (A2) n2 c2, .int .i64 (z)] 30)).alloc (.cells #[.slice none 0 0, .int .i64 0, .slice none 0 0, .int .i64 0, .slice none 0 0, .int .i64 0] 30)) M C A2 n2 R) := (g.alloc hC _).alloc (by first | omega | (simp; omega) | (simp; done)) _
  have T1 : Hid (Ints ((w.alloc (.cells #[.slice (A) n c, .int .i64 (p), .slice (A') n' c', .int .i64 (q), .slice (A2) n2 c2, .int .i64 (z)] 30)).alloc (.cells #[.slice none 0 0, .int .i64 0, .slice none 0 0, .int .i64 0, .slice none 0 0, .int .i64 0] 30)) LL BL AL nL L) := (hl.alloc hBL _).alloc (by first | omega | (simp; omega) | (simp; done)) _
  have X0 : Hid (Box ((w.alloc (.cells #[.slice (A) n c, .int .i64 (p), .slice (A') n' c', .int .i64 (q), .slice (A2) n2 c2, .int .i64 (z)] 30)).alloc (.cells #[.slice none 0 0, .int .i64 0, .slice none 0 0, .int .i64 0, .slice none 0 0, .int .i64 0] 30)) w.heap.size [.slice (A) n c, .int .i64 (p), .slice (A') n' c', .int .i64 (q), .slice (A2) n2 c2, .int .i64 (z)]) := (Box.new w 30 [.slice (A) n c, .int .i64 (p), .slice (A') n' c', .int .i64 (q), .slice (A2) n2 c2, .int .i64 (z)]).alloc _
  have R0 : Hid (Box ((w.alloc (.cells #[.slice (A) n c, .int .i64 (p), .slice (A') n' c', .int .i64 (q), .slice (A2) n2 c2, .int .i64 (z)] 30)).alloc (.cells #[.slice none 0 0, .int .i64 0, .slice none 0 0, .int .i64 0, .slice none 0 0, .int .i64 0] 30)) (w.heap.size + 1) [.slice none 0 0, .int .i64 0, .slice none 0 0, .int .i64 0, .slice none 0 0, .int .i64 0]) := by
    have hx := Box.new (w.alloc (.cells #[.slice (A) n c, .int .i64 (p), .slice (A') n' c', .int .i64 (q), .slice (A2) n2 c2, .int .i64 (z)] 30)) 30 [.slice none 0 0, .int .i64 0, .slice none 0 0, .int .i64 0, .slice none 0 0, .int .i64 0]
    rw [World.size_alloc] at hx
    exact hx
  have E0 : Hid (Below w.heap.size w ((w.alloc (.cells #[.slice (A) n c, .int .i64 (p), .slice (A') n' c', .int .i64 (q), .slice (A2) n2 c2, .int .i64 (z)] 30)).alloc (.cells #[.slice none 0 0, .int .i64 0, .slice none 0 0, .int .i64 0, .slice none 0 0, .int .i64 0] 30))) := (by go_grown : Below w.heap.size w _)
  have s0 : (((w.alloc (.cells #[.slice (A) n c, .int .i64 (p), .slice (A') n' c', .int .i64 (q), .slice (A2) n2 c2, .int .i64 (z)] 30)).alloc (.cells #[.slice none 0 0, .int .i64 0, .slice none 0 0, .int .i64 0, .slice none 0 0, .int .i64 0] 30))).heap.size = w.heap.size + 2 := by simp
  clear h h' g hl
  have x0 := (X0.out.2 0 _ rfl).1; have x1 := (X0.out.2 1 _ rfl).1; have x2 := (X0.out.2 2 _ rfl).1; have x3 := (X0.out.2 3 _ rfl).1; have x4 := (X0.out.2 4 _ rfl).1; have x5 := (X0.out.2 5 _ rfl).1
  go_enter Tryd.func22, Tryd.ntmps22
  go_wp2_with fail
  generalize ((w.alloc (.cells #[.slice (A) n c, .int .i64 (p), .slice (A') n' c', .int .i64 (q), .slice (A2) n2 c2, .int .i64 (z)] 30)).alloc (.cells #[.slice none 0 0, .int .i64 0, .slice none 0 0, .int .i64 0, .slice none 0 0, .int .i64 0] 30)) = w0 at *
  clear x0 x1 x2 x3 x4 x5
  refine (sGoodWriter_any H1.out H2.out G1.out (by omega) (by omega) (by omega)).mono ?_
  rintro e w1 ⟨rfl, hb1⟩
  have s1 := hb1.size
  have E1 := Lib.hid (below_step hb1 E0.out (by omega))
  have X1 := Lib.hid (X0.out.below hb1 (by omega))
  have R1 := Lib.hid (R0.out.below hb1 (by omega))
  have I1 := Lib.hid (H1.out.below hb1 (by omega))
  have I2 := Lib.hid (H2.out.below hb1 (by omega))
  have G2 := Lib.hid (G1.out.below hb1 (by omega))
  have T2 := Lib.hid (T1.out.below hb1 (by omega))
  clear hb1 H1 H2 G1 X0 R0 E0 T1
  cases hg : goodW D p S q R z
  · have HO : Hid (wbOut D p S q R z 10 L = (Rv.zero, 0, 5)) := by show _ = _; simp [wbOut, hg]
    clear hg
    have r0 := (R1.out.2 0 _ rfl).1; have r1 := (R1.out.2 1 _ rfl).1; have r2 := (R1.out.2 2 _ rfl).1; have r3 := (R1.out.2 3 _ rfl).1; have r4 := (R1.out.2 4 _ rfl).1; have r5 := (R1.out.2 5 _ rfl).1
    have g0 := (R1.out.2 0 _ rfl).2; have g1 := (R1.out.2 1 _ rfl).2; have g2 := (R1.out.2 2 _ rfl).2; have g3 := (R1.out.2 3 _ rfl).2; have g4 := (R1.out.2 4 _ rfl).2; have g5 := (R1.out.2 5 _ rfl).2
    go_wp2
    refine bodyPost_ret (v := .tuple #[.agg #[.slice none 0 0, .int .i64 0, .slice none 0 0, .int .i64 0, .slice none 0 0, .int .i64 0], .int .i64 0, .int .i64 5]) (by simp [results, Tryd.results22, go_sem, r0, r1, r2, r3, r4, r5, g0, g1, g2, g3, g4, g5]) rfl ?_
    rw [HO.out]
    refine Post3W.zero ?_
    (repeat (with_reducible refine below_set ?_ (by omega) _))
    exact E1.out
  · have HG0 := Lib.hid hg
    clear hg
    go_wp2_with fail
    refine (validBytes_any T2.out).mono ?_
    rintro e w9 ⟨rfl, rfl⟩
    cases hbL : bytesB L
    · have HO : Hid (wbOut D p S q R z 10 L = (Rv.zero, 0, 5)) := by show _ = _; simp [wbOut, HG0.out, hbL]
      clear hbL
      have r0 := (R1.out.2 0 _ rfl).1; have r1 := (R1.out.2 1 _ rfl).1; have r2 := (R1.out.2 2 _ rfl).1; have r3 := (R1.out.2 3 _ rfl).1; have r4 := (R1.out.2 4 _ rfl).1; have r5 := (R1.out.2 5 _ rfl).1
      have g0 := (R1.out.2 0 _ rfl).2; have g1 := (R1.out.2 1 _ rfl).2; have g2 := (R1.out.2 2 _ rfl).2; have g3 := (R1.out.2 3 _ rfl).2; have g4 := (R1.out.2 4 _ rfl).2; have g5 := (R1.out.2 5 _ rfl).2
      go_wp2
      refine bodyPost_ret (v := .tuple #[.agg #[.slice none 0 0, .int .i64 0, .slice none 0 0, .int .i64 0, .slice none 0 0, .int .i64 0], .int .i64 0, .int .i64 5]) (by simp [results, Tryd.results22, go_sem, r0, r1, r2, r3, r4, r5, g0, g1, g2, g3, g4, g5]) rfl ?_
      rw [HO.out]
      refine Post3W.zero ?_
      (repeat (with_reducible refine below_set ?_ (by omega) _))
      exact E1.out
    · obtain ⟨q0, zn, hq0, hzn, hq9, hzz, hok, hL60, hLb, hD60, hS12, hR16, hpp, ho, hv, hr, hN⟩ := wb_start (e := 10) (show (goodW D p S q R z && bytesB L) = true by rw [HG0.out, hbL]; rfl)
      subst hq0; subst hzn
      have HO := Lib.hid ho; have HOK := Lib.hid hok; have HLB := Lib.hid hLb; have HV := Lib.hid hv
      have hn60 : n ≤ 60 := by rw [HL.out]; exact hD60
      have hn12 : n' ≤ 12 := by rw [HL'.out]; exact hS12
      have hn16 : n2 ≤ 16 := by rw [HG.out]; exact hR16
      have hnL60 : nL ≤ 60 := by rw [HLL.out]; exact hL60
      clear ho hok hLb hv hbL HG0 hr hN hD60 hS12 hR16
      have x0 := (X1.out.2 0 _ rfl).1; have x1 := (X1.out.2 1 _ rfl).1; have x2 := (X1.out.2 2 _ rfl).1; have x3 := (X1.out.2 3 _ rfl).1; have x4 := (X1.out.2 4 _ rfl).1; have x5 := (X1.out.2 5 _ rfl).1
      go_wp2_with fail
      clear x0 x1 x2 x3 x4 x5
      refine (sCopyWriter_row I1.out I2.out G2.out (by omega) (by omega) (by omega) (by omega) (by omega) (by omega) (by unfold okInt; omega) (by unfold okInt; omega) (by unfold okInt; omega)).mono ?_
      rintro e w2 ⟨m, A3, n3, c3, A3', n3', c3', A4, n4, c4, rfl, ⟨hc3, hc3'⟩, hb2, hwm, hmw, hd, hd', hr4, ha⟩
      have s2 := hb2.size
      have D2 := Lib.hid hd; have D2' := Lib.hid hd'; have D2r := Lib.hid hr4; have HAP := Lib.hid ha
      have R2 := Lib.hid (R1.out.below hb2 (by omega))
      have E2 := Lib.hid (below_step hb2 E1.out (by omega))
      have T3 := Lib.hid (T2.out.below hb2 (by omega))
      clear hb2 hd hd' hr4 ha R1 E1 I1 I2 G2 X1 T2
      obtain ⟨F, hF⟩ : ∃ F, (tkAll S zn 10 L D p q0 R).1 = F := ⟨_, rfl⟩
      obtain ⟨N, hN⟩ : ∃ N, (tkAll S zn 10 L D p q0 R).2 = N := ⟨_, rfl⟩
      have htk := sFlushLines_row (bd := 976) (c' := c3') (cL := cL) D2.out D2'.out D2r.out T3.out (by omega) (by omega) (Nat.le_refl _) (by omega) (Apart.of_le D2.out D2r.out.ints (Nat.le_refl _)).symm (Nat.le_refl _) (by omega) hc3 hc3' hcL hzz (by omega) (by omega) (by have := HOK.out; rwa [← HLL.out] at this) HLB.out (by omega)
      rw [hF, hN] at htk
      rw [hF, hN] at HO
      rw [hF] at HV
      have HTK := Lib.hid htk
      clear htk hF hN
      go_wp2_with fail
      refine HTK.out.mono ?_
      rintro e w3 ⟨A1, n1, c1, A5, n5, c5, M1, C1, M5, C5, rfl, ⟨hc1b, hc5⟩, hb3, hi1, hr5, ⟨hC15, hC5, hM5w⟩, hor1, hor5⟩
      have s3 := hb3.size
      have D3 := Lib.hid hi1; have D3r := Lib.hid hr5.ints; have D3' := Lib.hid (D2'.out.below hb3 (by omega))
      have R3 := Lib.hid (R2.out.below hb3 (by omega))
      have E3 := Lib.hid (below_step hb3 E2.out (by omega))
      have hM1 : w1.heap.size ≤ M1 := by rcases hor1 with ⟨rfl, _⟩ | h <;> omega
      have hM5 : m ≤ M5 := by rcases hor5 with ⟨rfl, _⟩ | h <;> omega
      have AP3 : Hid (Apart A1 n1 A3' n3' ∧ Apart A5 n5 A1 n1 ∧ Apart A5 n5 A3' n3') := by
        show _ ∧ _ ∧ _
        refine ⟨?_, (Apart.of_le hi1 hr5.ints hC15).symm, (Apart.of_le D3'.out hr5.ints hM5).symm⟩
        rcases hor1 with ⟨_, _, rfl, rfl⟩ | h
        · exact HAP.out
        · exact (Apart.of_le D3'.out hi1 (by omega)).symm
      clear hb3 hi1 hr5 R2 E2 HTK D2 D2' D2r HAP T3
      have r0 := (R3.out.2 0 _ rfl).1; have r1 := (R3.out.2 1 _ rfl).1; have r2 := (R3.out.2 2 _ rfl).1; have r3 := (R3.out.2 3 _ rfl).1; have r4 := (R3.out.2 4 _ rfl).1; have r5 := (R3.out.2 5 _ rfl).1
      have g0 := (R3.out.2 0 _ rfl).2; have g1 := (R3.out.2 1 _ rfl).2; have g2 := (R3.out.2 2 _ rfl).2; have g3 := (R3.out.2 3 _ rfl).2; have g4 := (R3.out.2 4 _ rfl).2; have g5 := (R3.out.2 5 _ rfl).2
      go_wp2
      refine bodyPost_ret (v := .tuple #[.agg #[.slice (A1) n1 c1, .int .i64 (F.p), .slice (A3') n3' c3', .int .i64 ((F.q : Int)), .slice (A5) n5 c5, .int .i64 ((zn : Int))], .int .i64 (N : Int), .int .i64 F.st]) (by simp [results, Tryd.results22, go_sem, r0, r1, r2, r3, r4, r5, g0, g1, g2, g3, g4, g5]) rfl ?_
      rw [HO.out]
      obtain ⟨_, _, _, hp9, hq99⟩ := validD_iff.1 HV.out
      refine ⟨A1, n1, c1, A3', n3', c3', A5, n5, c5, rfl, ⟨hc1b, hc3', hc5⟩, ?_, ⟨⟨?_, ?_, AP3.out.1, by unfold okInt; show _ ≤ F.p ∧ F.p ≤ _; omega, by unfold okInt; show _ ≤ (F.q : Int) ∧ (F.q : Int) ≤ _; omega⟩, ?_, AP3.out.2.1, AP3.out.2.2, by unfold okInt; show _ ≤ (zn : Int) ∧ (zn : Int) ≤ _; omega⟩⟩
      · (repeat (with_reducible refine below_set ?_ (by omega) _))
        exact E3.out
      · simp only [World.size_setCell]
        refine Ints.more (lo := M1) (hi := C1) ?_ (by omega) (by omega)
        have hf : w.heap.size + 1 < M1 ∨ C1 ≤ w.heap.size + 1 := by omega
        (repeat (with_reducible refine Ints.set_ ?_ (by omega) _))
        exact D3.out
      · simp only [World.size_setCell]
        refine Ints.more (lo := w1.heap.size) (hi := m) ?_ (by omega) (by omega)
        (repeat (with_reducible refine Ints.set_ ?_ (by omega) _))
        exact D3'.out
      · simp only [World.size_setCell]
        refine Ints.more (lo := M5) (hi := C5) ?_ (by omega) (by omega)
        (repeat (with_reducible refine Ints.set_ ?_ (by omega) _))
        exact D3r.out
end
end Go.Proofs.YtdiebkaedjlckaaDoor
