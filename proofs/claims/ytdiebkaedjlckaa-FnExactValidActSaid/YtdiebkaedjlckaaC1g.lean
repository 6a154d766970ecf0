/- Contracts of NewDevice, impl's and the model's. -/
import Derived.Test.YtdiebkaedjlckaaS1b
namespace Go.Proofs.Ytdiebkaedjlckaa
open Go.ChangeShapes Go.WideShapes Go.ChangeAt Go.RowKit
set_option linter.unusedSimpArgs false
set_option linter.unusedVariables false

/-- A device and a bool, in new memory. -/
def Post2 (o : Dv × Bool) (w : World) (e : Ending) (w' : World) : Prop :=
  ∃ A n c A' n' c', e = .returned (.tuple #[.agg #[.slice (A) n c, .int .i64 (o.1.p), .slice (A') n' c', .int .i64 (o.1.q)], .bool o.2]) ∧ (n ≤ c ∧ n' ≤ c') ∧ Below w.heap.size w w' ∧ DevIn w' w.heap.size w'.heap.size A n A' n' o.1.d o.1.p o.1.s o.1.q
theorem Post2.zero {w w' : World} (hb : Below w.heap.size w w') : Post2 (Dv.zero, false) w (.returned (.tuple #[.agg #[.slice none 0 0, .int .i64 0, .slice none 0 0, .int .i64 0], .bool false])) w' :=
  ⟨none, 0, 0, none, 0, 0, rfl, ⟨Nat.le_refl _, Nat.le_refl _⟩, hb, DevIn.zero _ _ _⟩

def newOut (D S : List Int) : Dv × Bool := if validD D 0 S 0 then (⟨D, 0, S, 0⟩, true) else (.zero, false)

set_option maxHeartbeats 2000000 in
theorem NewDevice_any {A A' : Option Addr} {n c n' c' : Nat} {D S : List Int} {w : World} {L L' B B' : Nat} (h : Ints w L B A n D) (h' : Ints w L' B' A' n' S) (hB : B ≤ w.heap.size) (hB' : B' ≤ w.heap.size) :
    Calls Try.prog 18 #[.slice A n c, .slice A' n' c'] w (Post2 (newOut D S) w) := by
  have HL := Lib.hid h.len
  have HL' := Lib.hid h'.len
  have H1 := Lib.hid (fun o1 o2 => (h.alloc hB o1).alloc (by first | omega | (simp; omega) | (simp; done)) o2)
  have H2 := Lib.hid (fun o1 o2 => (h'.alloc hB' o1).alloc (by first | omega | (simp; omega) | (simp; done)) o2)
  have R0 := Lib.hid ((Box.new w 25 [.slice none 0 0, .int .i64 0, .slice none 0 0, .int .i64 0]).alloc (.cells #[.slice (A) n c, .int .i64 (0), .slice (A') n' c', .int .i64 (0)] 25))
  have X0 := Lib.hid (Box.new (w.alloc (.cells #[.slice none 0 0, .int .i64 0, .slice none 0 0, .int .i64 0] 25)) 25 [.slice (A) n c, .int .i64 (0), .slice (A') n' c', .int .i64 (0)])
  (try simp only [World.size_alloc, World.size_setCell, World.size_drew] at X0)
  cases hv : validD D 0 S 0
  · have HO : Hid (newOut D S = (.zero, false)) := by show _ = _; simp [newOut, hv]
    rw [HO.out]
    have HV := Lib.hid hv
    clear hv
    go_enter Try.func18, Try.ntmps18
    go_wp2_with fail
    refine (ValidDevice_any (H1.out _ _) (H2.out _ _) (by first | omega | (simp; omega) | (simp; done)) (by first | omega | (simp; omega) | (simp; done))).mono ?_
    rintro e w1 ⟨rfl, hb1⟩
    rw [HV.out]
    (try simp only [World.size_alloc, World.size_setCell, World.size_drew] at hb1)
    have HB1 := Lib.hid hb1
    clear hb1
    have R1 := Lib.hid (R0.out.below HB1.out (by omega))
    have x0 := (R1.out.2 0 _ rfl).1; have x1 := (R1.out.2 1 _ rfl).1; have x2 := (R1.out.2 2 _ rfl).1; have x3 := (R1.out.2 3 _ rfl).1
    have f0 := (R1.out.2 0 _ rfl).2; have f1 := (R1.out.2 1 _ rfl).2; have f2 := (R1.out.2 2 _ rfl).2; have f3 := (R1.out.2 3 _ rfl).2
    go_wp2
    refine bodyPost_ret (v := .tuple #[.agg #[.slice none 0 0, .int .i64 0, .slice none 0 0, .int .i64 0], .bool false]) (by simp [results, Try.results18, go_sem, x0, x1, x2, x3, f0, f1, f2, f3]) rfl (Post2.zero ?_)
    (repeat (with_reducible refine below_set ?_ (by omega) _))
    exact below_step HB1.out (by go_grown) (by first | omega | (simp; omega) | (simp; done))
  · have HO : Hid (newOut D S = (⟨D, 0, S, 0⟩, true)) := by show _ = _; simp [newOut, hv]
    rw [HO.out]
    obtain ⟨hbD, hS12, _⟩ := validD_iff.1 hv
    have hn60 : n ≤ 60 := by rw [HL.out]; exact bytesB_le hbD
    have hn12 : n' ≤ 12 := by rw [HL'.out]; exact hS12
    have HV := Lib.hid hv
    clear hv hbD hS12
    go_enter Try.func18, Try.ntmps18
    go_wp2_with fail
    refine (ValidDevice_any (H1.out _ _) (H2.out _ _) (by first | omega | (simp; omega) | (simp; done)) (by first | omega | (simp; omega) | (simp; done))).mono ?_
    rintro e w1 ⟨rfl, hb1⟩
    rw [HV.out]
    (try simp only [World.size_alloc, World.size_setCell, World.size_drew] at hb1)
    have HB1 := Lib.hid hb1
    clear hb1
    have s1 := HB1.out.size
    (try simp only [World.size_alloc, World.size_setCell, World.size_drew] at s1)
    have R1 := Lib.hid (R0.out.below HB1.out (by omega))
    have X1 := Lib.hid (X0.out.below HB1.out (by omega))
    have I1 := Lib.hid ((H1.out _ _).below HB1.out (by omega))
    have I2 := Lib.hid ((H2.out _ _).below HB1.out (by omega))
    have x0 := (X1.out.2 0 _ rfl).1; have x1 := (X1.out.2 1 _ rfl).1; have x2 := (X1.out.2 2 _ rfl).1; have x3 := (X1.out.2 3 _ rfl).1
    go_wp2_with fail
    clear x0 x1 x2 x3
    refine (copyDevice_any I1.out I2.out (by omega) (by omega) (by omega) (by omega) (by unfold okInt; omega) (by unfold okInt; omega)).mono ?_
    rintro e w2 ⟨A2, n2, c2, A2', n2', c2', rfl, ⟨hc2, hc2'⟩, hb2, hd2, hd2', hap, hp2, hq2⟩
    have HB2 := Lib.hid hb2
    have HD2 := Lib.hid hd2
    have HD2' := Lib.hid hd2'
    have HAP := Lib.hid hap
    clear hb2 hd2 hd2' hap
    have s2 := HB2.out.size
    have R2 := Lib.hid (R1.out.below HB2.out (by omega))
    have x0 := (R2.out.2 0 _ rfl).1; have x1 := (R2.out.2 1 _ rfl).1; have x2 := (R2.out.2 2 _ rfl).1; have x3 := (R2.out.2 3 _ rfl).1
    have f0 := (R2.out.2 0 _ rfl).2; have f1 := (R2.out.2 1 _ rfl).2; have f2 := (R2.out.2 2 _ rfl).2; have f3 := (R2.out.2 3 _ rfl).2
    go_wp2
    refine bodyPost_ret (v := .tuple #[.agg #[.slice (A2) n2 c2, .int .i64 (0), .slice (A2') n2' c2', .int .i64 (0)], .bool true]) (by simp [results, Try.results18, go_sem, x0, x1, x2, x3, f0, f1, f2, f3]) rfl ?_
    refine ⟨_, _, _, _, _, _, rfl, ⟨hc2, hc2'⟩, ?_, ⟨?_, ?_, HAP.out, hp2, hq2⟩⟩
    · (repeat (with_reducible refine below_set ?_ (by omega) _))
      exact below_step HB2.out (below_step HB1.out (by go_grown) (by first | omega | (simp; omega) | (simp; done))) (by omega)
    · simp only [World.size_setCell]
      refine Ints.more (lo := w1.heap.size) (hi := w2.heap.size) ?_ (by omega) (by omega)
      (repeat (with_reducible refine Ints.set_ ?_ (by omega) _))
      exact HD2.out
    · simp only [World.size_setCell]
      refine Ints.more (lo := w1.heap.size) (hi := w2.heap.size) ?_ (by omega) (by omega)
      (repeat (with_reducible refine Ints.set_ ?_ (by omega) _))
      exact HD2'.out

theorem NewDevice_x {A A' : Option Addr} {n c n' c' : Nat} {D S : List Int} {w : World} {L L' B B' : Nat} (h : Ints w L B A n D) (h' : Ints w L' B' A' n' S) (hB : B ≤ w.heap.size) (hB' : B' ≤ w.heap.size) (_hc : n ≤ c) (_hc' : n' ≤ c') (_hn : n ≤ 1048576) (_hn' : n' ≤ 1048576) :
    Calls Try.prog 18 #[.slice A n c, .slice A' n' c'] w (Post2 (newOut D S) w) := NewDevice_any h h' hB hB'
theorem newOut_le (D S : List Int) : (newOut D S).1.d.length ≤ 60 ∧ (newOut D S).1.s.length ≤ 60 := by
  unfold newOut
  split
  · obtain ⟨hb, hs, _⟩ := validD_iff.1 ‹_›
    exact ⟨bytesB_le hb, by show S.length ≤ 60; omega⟩
  · exact ⟨by decide, by decide⟩
end Go.Proofs.Ytdiebkaedjlckaa
