/- Contracts of a reader at work: how it is made, its place; TellReader. -/
import Derived.Test.YtmjmplfhedknhaaC2a
import Derived.Test.YtmjmplfhedknhaaC1b
import Derived.Test.YtmjmplfhedknhaaS1d
import Derived.Deep.RegionHeld3
namespace Go.Proofs.Ytmjmplfhedknhaa
open Go.ChangeShapes Go.WideShapes Go.ChangeAt Go.RowKit
set_option linter.unusedSimpArgs false
set_option linter.unusedVariables false

/-- A reader at work in block b, its slices in new memory below that. -/
def LookPost (D : List Int) (p : Int) (S : List Int) (q : Int) (R : List Int) (z : Int) (w : World) (e : Ending) (w' : World) : Prop :=
  ∃ b A n c A' n' c' A2 n2 c2, e = .returned (.pointer (some ⟨b, 0, none⟩)) ∧ (n ≤ c ∧ n' ≤ c' ∧ n2 ≤ c2) ∧ Below w.heap.size w w' ∧ w.heap.size ≤ b ∧ Box w' b [.slice (A) n c, .int .i64 (p), .slice (A') n' c', .int .i64 (q), .slice (A2) n2 c2, .int .i64 (z)] ∧
    Ints w' w.heap.size b A n D ∧ Ints w' w.heap.size b A' n' S ∧ Ints w' w.heap.size b A2 n2 R ∧ Apart A n A' n' ∧ Apart A2 n2 A n ∧ Apart A2 n2 A' n'

set_option maxHeartbeats 2000000 in
theorem lookaheadOf_any {A A' A2 : Option Addr} {n c n' c' n2 c2 : Nat} {D S R : List Int} {p q z : Int} {w : World} {L L' B B' M C : Nat} (h : Ints w L B A n D) (h' : Ints w L' B' A' n' S) (g : Ints w M C A2 n2 R) (hB : B ≤ w.heap.size) (hB' : B' ≤ w.heap.size) (hC : C ≤ w.heap.size)
    (hn : n ≤ 1048576) (hn' : n' ≤ 1048576) (hn2 : n2 ≤ 1048576) (hp : okInt p) (hq : okInt q) :
    Calls Try.prog 39 #[.agg #[.slice (A) n c, .int .i64 (p), .slice (A') n' c', .int .i64 (q), .slice (A2) n2 c2, .int .i64 (z)]] w (LookPost D p S q R z w) := by
  have H1 := Lib.hid (h.alloc hB (.cells #[.slice (A) n c, .int .i64 (p), .slice (A') n' c', .int .i64 (q), .slice (A2) n2 c2, .int .i64 (z)] 27))
  have H2 := Lib.hid (h'.alloc hB' (.cells #[.slice (A) n c, .int .i64 (p), .slice (A') n' c', .int .i64 (q), .slice (A2) n2 c2, .int .i64 (z)] 27))
  have G1 := Lib.hid (g.alloc hC (.cells #[.slice (A) n c, .int .i64 (p), .slice (A') n' c', .int .i64 (q), .slice (A2) n2 c2, .int .i64 (z)] 27))
  have X0 := Lib.hid (Box.new w 27 [.slice (A) n c, .int .i64 (p), .slice (A') n' c', .int .i64 (q), .slice (A2) n2 c2, .int .i64 (z)])
  clear h h' g
  go_enter Try.func39, Try.ntmps39
  go_wp2_with fail
  have x0 := (X0.out.2 0 _ rfl).1; have x1 := (X0.out.2 1 _ rfl).1; have x2 := (X0.out.2 2 _ rfl).1; have x3 := (X0.out.2 3 _ rfl).1; have x4 := (X0.out.2 4 _ rfl).1; have x5 := (X0.out.2 5 _ rfl).1
  go_region_held3 (fun w' => w'.cell? ⟨w.heap.size, 0, none⟩ = some (.slice A n c) ∧ w'.cell? ⟨w.heap.size, 1, none⟩ = some (.int .i64 p) ∧ w'.cell? ⟨w.heap.size, 2, none⟩ = some (.slice A' n' c') ∧ w'.cell? ⟨w.heap.size, 3, none⟩ = some (.int .i64 q) ∧ w'.cell? ⟨w.heap.size, 4, none⟩ = some (.slice A2 n2 c2) ∧ w'.cell? ⟨w.heap.size, 5, none⟩ = some (.int .i64 z)) (go_keep)
    (first | (go_at_call 70; refine (copyDevice_any H1.out.drew H2.out.drew (by first | omega | (simp; omega) | (simp; done)) (by first | omega | (simp; omega) | (simp; done)) hn hn' hp hq).mono ?_; rintro e w1 ⟨A3, n3, c3, A3', n3', c3', rfl, ⟨hc3, hc3'⟩, hb1, hd, hd', ha, _, _⟩; (try simp only [World.size_alloc, World.size_setCell, World.size_drew] at hb1 hd hd'); have HB1 := Lib.hid hb1; have D1 := Lib.hid hd; have D1' := Lib.hid hd'; have HA := Lib.hid ha; have s1 := hb1.size; (try simp only [World.size_alloc, World.size_setCell, World.size_drew] at s1); have X1 := Lib.hid (X0.out.drew.below hb1 (by omega)); have G2 := Lib.hid (G1.out.drew.below hb1 (by first | omega | (simp; omega) | (simp; done))); clear hb1 hd hd' ha; have x0 := (X1.out.2 0 _ rfl).1; have x1 := (X1.out.2 1 _ rfl).1; have x2 := (X1.out.2 2 _ rfl).1; have x3 := (X1.out.2 3 _ rfl).1; have x4 := (X1.out.2 4 _ rfl).1; have x5 := (X1.out.2 5 _ rfl).1) | (go_at_call 71; refine (copyList_any G2.out (by omega) hn2).mono ?_; rintro e w2 ⟨A4, n4, c4, rfl, hc4, hb2, hi2⟩; (try simp only [World.size_alloc, World.size_setCell, World.size_drew] at hb2 hi2); have HB2 := Lib.hid hb2; have HI2 := Lib.hid hi2; have s2 := hb2.size; have X2 := Lib.hid (X1.out.below hb2 (by omega)); clear hb2 hi2; have x0 := (X2.out.2 0 _ rfl).1; have x1 := (X2.out.2 1 _ rfl).1; have x2 := (X2.out.2 2 _ rfl).1; have x3 := (X2.out.2 3 _ rfl).1; have x4 := (X2.out.2 4 _ rfl).1; have x5 := (X2.out.2 5 _ rfl).1))
  go_wp2
  go_ret
  have D2 := Lib.hid (D1.out.below HB2.out (by omega))
  have D2' := Lib.hid (D1'.out.below HB2.out (by omega))
  have e1 : Below w.heap.size w w1 := below_step HB1.out ((by go_grown : Below w.heap.size w (w.alloc _)).drew) (by omega)
  have e2 : Below w.heap.size w w2 := below_step HB2.out e1 (by omega)
  refine ⟨w2.heap.size, _, _, _, _, _, _, _, _, _, rfl, ⟨hc3, hc3', hc4⟩, e2.alloc (by omega) _, by omega, Box.new w2 _ [.slice (A3) n3 c3, .int .i64 (p), .slice (A3') n3' c3', .int .i64 (q), .slice (A4) n4 c4, .int .i64 (z)], ?_, ?_, ?_, HA.out, (Apart.of_le D2.out HI2.out (by omega)).symm, (Apart.of_le D2'.out HI2.out (by omega)).symm⟩
  · exact (D2.out.alloc (by omega) _).more (by omega) (by omega)
  · exact (D2'.out.alloc (by omega) _).more (by omega) (by omega)
  · exact (HI2.out.alloc (by omega) _).more (by omega) (by omega)

set_option maxHeartbeats 1000000 in
theorem tell_any {A A' A2 : Option Addr} {n c n' c' n2 c2 b : Nat} {p q z : Int} {w : World} (hX : Box w b [.slice (A) n c, .int .i64 (p), .slice (A') n' c', .int .i64 (q), .slice (A2) n2 c2, .int .i64 (z)]) (hp : -1000 ≤ p ∧ p ≤ 1000) (hn2 : n2 ≤ 1000) :
    Calls Try.prog 63 #[.pointer (some ⟨b, 0, none⟩)] w (IntB (p - (n2 : Int)) w) := by
  have HX := Lib.hid hX
  have hw : IntKind.i64.wrap (p - (n2 : Int)) = p - (n2 : Int) := IntWalk.i64_in _ (by omega)
  have x0 := (HX.out.2 0 _ rfl).1; have x1 := (HX.out.2 1 _ rfl).1; have x2 := (HX.out.2 2 _ rfl).1; have x3 := (HX.out.2 3 _ rfl).1; have x4 := (HX.out.2 4 _ rfl).1; have x5 := (HX.out.2 5 _ rfl).1
  go_enter Try.func63, Try.ntmps63
  go_wp2
  go_quiet (fail)
  go_wp2
  go_ret
  exact ⟨rfl, below_drewN (Below.refl _ _) _⟩
def tellOut (D : List Int) (p : Int) (S : List Int) (q : Int) (R : List Int) (z : Int) : Int := if validR D p S q R z then p - (R.length : Int) else -1

set_option maxHeartbeats 1000000 in
theorem TellReader_any {A A' A2 : Option Addr} {n c n' c' n2 c2 : Nat} {D S R : List Int} {p q z : Int} {w : World} {L L' B B' M C : Nat} (h : Ints w L B A n D) (h' : Ints w L' B' A' n' S) (g : Ints w M C A2 n2 R) (hB : B ≤ w.heap.size) (hB' : B' ≤ w.heap.size) (hC : C ≤ w.heap.size) (hnc : n ≤ c) :
    Calls Try.prog 28 #[.agg #[.slice (A) n c, .int .i64 (p), .slice (A') n' c', .int .i64 (q), .slice (A2) n2 c2, .int .i64 (z)]] w (IntB (tellOut D p S q R z) w) := by
  have HL := Lib.hid h.len
  have HL' := Lib.hid h'.len
  have HG := Lib.hid g.len
  have H1 := Lib.hid (h.alloc hB (.cells #[.slice (A) n c, .int .i64 (p), .slice (A') n' c', .int .i64 (q), .slice (A2) n2 c2, .int .i64 (z)] 27))
  have H2 := Lib.hid (h'.alloc hB' (.cells #[.slice (A) n c, .int .i64 (p), .slice (A') n' c', .int .i64 (q), .slice (A2) n2 c2, .int .i64 (z)] 27))
  have G1 := Lib.hid (g.alloc hC (.cells #[.slice (A) n c, .int .i64 (p), .slice (A') n' c', .int .i64 (q), .slice (A2) n2 c2, .int .i64 (z)] 27))
  have X0 := Lib.hid (Box.new w 27 [.slice (A) n c, .int .i64 (p), .slice (A') n' c', .int .i64 (q), .slice (A2) n2 c2, .int .i64 (z)])
  clear h h' g
  go_enter Try.func28, Try.ntmps28
  go_wp2_with fail
  refine (ValidReader_any H1.out H2.out G1.out (by first | omega | (simp; omega) | (simp; done)) (by first | omega | (simp; omega) | (simp; done)) (by first | omega | (simp; omega) | (simp; done)) hnc).mono ?_
  rintro e w1 ⟨rfl, hb1⟩
  (try simp only [World.size_alloc, World.size_setCell, World.size_drew] at hb1)
  have E1 : Hid (Below w.heap.size w w1) := below_step hb1 (by go_grown) (by omega)
  have s1 := hb1.size
  (try simp only [World.size_alloc, World.size_setCell, World.size_drew] at s1)
  have X1 := Lib.hid (X0.out.below hb1 (by omega))
  have I1 := Lib.hid (H1.out.below hb1 (by omega))
  have I2 := Lib.hid (H2.out.below hb1 (by omega))
  have G2 := Lib.hid (G1.out.below hb1 (by omega))
  clear hb1 H1 H2 G1 X0
  have x0 := (X1.out.2 0 _ rfl).1; have x1 := (X1.out.2 1 _ rfl).1; have x2 := (X1.out.2 2 _ rfl).1; have x3 := (X1.out.2 3 _ rfl).1; have x4 := (X1.out.2 4 _ rfl).1; have x5 := (X1.out.2 5 _ rfl).1
  cases hv : validR D p S q R z
  · have HO : Hid (tellOut D p S q R z = -1) := by show _ = _; simp [tellOut, hv]
    have HV := Lib.hid hv
    clear hv
    go_wp2
    go_ret
    exact ⟨ret_int HO.out.symm, E1.out⟩
  · have HO : Hid (tellOut D p S q R z = p - (n2 : Int)) := by show _ = _; simp [tellOut, hv, HG.out]
    obtain ⟨hvd, hz, hRz, _⟩ := validR_iff.1 hv
    obtain ⟨hb, hs12, _, hp, hq⟩ := validD_iff.1 hvd
    have hn60 : n ≤ 60 := by rw [HL.out]; exact bytesB_le hb
    have hn12 : n' ≤ 12 := by rw [HL'.out]; exact hs12
    have hn16 : n2 ≤ 16 := by have := HG.out; omega
    clear hv hvd hb hs12
    go_wp2_with fail
    refine (lookaheadOf_any I1.out I2.out G2.out (by omega) (by omega) (by omega) (by omega) (by omega) (by omega) (by unfold okInt; omega) (by unfold okInt; omega)).mono ?_
    rintro e w2 ⟨b, A3, n3, c3, A3', n3', c3', A4, n4, c4, rfl, _, hb2, _, hx, _, _, h4, _, _, _⟩
    have e4 : n4 = n2 := by rw [h4.len, HG.out]
    subst e4
    have HX := Lib.hid hx
    have E2 : Hid (Below w.heap.size w w2) := below_step hb2 E1.out (by omega)
    have s2 := hb2.size
    clear hx hb2 h4
    go_wp2_with fail
    refine (tell_any HX.out (by omega) (by omega)).mono ?_
    rintro e w3 ⟨rfl, hb3⟩
    have HB3 := Lib.hid hb3
    clear hb3
    go_wp2
    go_ret
    exact ⟨ret_int HO.out.symm, below_step HB3.out E2.out (by omega)⟩
theorem TellReader_x {A A' A2 : Option Addr} {n c n' c' n2 c2 : Nat} {D S R : List Int} {p q z : Int} {w : World} {L L' B B' M C : Nat} (h : Ints w L B A n D) (h' : Ints w L' B' A' n' S) (g : Ints w M C A2 n2 R) (hB : B ≤ w.heap.size) (hB' : B' ≤ w.heap.size) (hC : C ≤ w.heap.size) (hnc : n ≤ c) :
    Calls Try.prog 28 #[.agg #[.slice (A) n c, .int .i64 (p), .slice (A') n' c', .int .i64 (q), .slice (A2) n2 c2, .int .i64 (z)]] w (IntB (tellOut D p S q R z) w) := TellReader_any h h' g hB hB' hC hnc
end Go.Proofs.Ytmjmplfhedknhaa
