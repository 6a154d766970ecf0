/- Contracts of a reader's answer out of the reader at work; NewReader. -/
import Derived.Test.YtmjmplfhedknhaaC2b
import Derived.Test.YtmjmplfhedknhaaL5
namespace Go.Proofs.Ytmjmplfhedknhaa
open Go.ChangeShapes Go.WideShapes Go.ChangeAt Go.RowKit
set_option linter.unusedSimpArgs false
set_option linter.unusedVariables false

/-- A reader's numbers, as one. -/
structure Rv where
  d : List Int
  p : Int
  s : List Int
  q : Int
  r : List Int
  z : Int
def Rv.zero : Rv := ⟨[], 0, [], 0, [], 0⟩
/-- A reader and a bool, in new memory. -/
def Post2R (o : Rv × Bool) (w : World) (e : Ending) (w' : World) : Prop :=
  ∃ A n c A' n' c' A2 n2 c2, e = .returned (.tuple #[.agg #[.slice (A) n c, .int .i64 (o.1.p), .slice (A') n' c', .int .i64 (o.1.q), .slice (A2) n2 c2, .int .i64 (o.1.z)], .bool o.2]) ∧ (n ≤ c ∧ n' ≤ c' ∧ n2 ≤ c2) ∧ Below w.heap.size w w' ∧ RdrIn w' w.heap.size w'.heap.size A n A' n' A2 n2 o.1.d o.1.p o.1.s o.1.q o.1.r o.1.z
theorem Post2R.zero {w w' : World} (hb : Below w.heap.size w w') : Post2R (Rv.zero, false) w (.returned (.tuple #[.agg #[.slice none 0 0, .int .i64 0, .slice none 0 0, .int .i64 0, .slice none 0 0, .int .i64 0], .bool false])) w' :=
  ⟨none, 0, 0, none, 0, 0, none, 0, 0, rfl, ⟨Nat.le_refl _, Nat.le_refl _, Nat.le_refl _⟩, hb, DevIn.zero _ _ _, (Ints.nil _ _ _ 0 _).1, fun h => absurd h (by omega), fun h => absurd h (by omega), by unfold okInt; show _ ≤ (0 : Int) ∧ (0 : Int) ≤ _; omega⟩
theorem keep0 {w : World} {b o : Nat} {v : Value} (h : w.cell? ⟨b, o, none⟩ = some v) : w.drew.cell? ⟨b, o, none⟩ = some v := h
theorem keep6 {w : World} {b c o : Nat} {v u0 u1 u2 u3 u4 u5 : Value} (h : w.cell? ⟨b, o, none⟩ = some v) (hne : b ≠ c) :
    ((((((w.setCell ⟨c, 0, none⟩ u0).setCell ⟨c, 1, none⟩ u1).setCell ⟨c, 2, none⟩ u2).setCell ⟨c, 3, none⟩ u3).setCell ⟨c, 4, none⟩ u4).setCell ⟨c, 5, none⟩ u5).drew.cell? ⟨b, o, none⟩ = some v := by
  refine (World.cell?_of_block (w := w) (a := ⟨b, o, none⟩) ?_).trans h
  rw [show ∀ W : World, W.drew.heap = W.heap from fun _ => rfl, Below.heap_setCell _ ⟨c, 5, none⟩ u5 b hne, Below.heap_setCell _ ⟨c, 4, none⟩ u4 b hne, Below.heap_setCell _ ⟨c, 3, none⟩ u3 b hne, Below.heap_setCell _ ⟨c, 2, none⟩ u2 b hne, Below.heap_setCell _ ⟨c, 1, none⟩ u1 b hne, Below.heap_setCell _ ⟨c, 0, none⟩ u0 b hne]

set_option maxHeartbeats 1000000 in
theorem reader_any {A A' A2 : Option Addr} {n c n' c' n2 c2 b : Nat} {p q z : Int} {w : World} (hX : Box w b [.slice (A) n c, .int .i64 (p), .slice (A') n' c', .int .i64 (q), .slice (A2) n2 c2, .int .i64 (z)]) :
    Calls Try.prog 41 #[.pointer (some ⟨b, 0, none⟩)] w (fun e w' => e = .returned (.agg #[.slice (A) n c, .int .i64 (p), .slice (A') n' c', .int .i64 (q), .slice (A2) n2 c2, .int .i64 (z)]) ∧ Below w.heap.size w w') := by
  have hlt := hX.lt
  have hne1 : b ≠ w.heap.size := by omega
  have HX := Lib.hid (hX.alloc (.cells #[.slice none 0 0, .int .i64 0, .slice none 0 0, .int .i64 0, .slice none 0 0, .int .i64 0] 27))
  have R0 := Lib.hid (Box.new w 27 [.slice none 0 0, .int .i64 0, .slice none 0 0, .int .i64 0, .slice none 0 0, .int .i64 0])
  have x0 := (HX.out.2 0 _ rfl).1; have x1 := (HX.out.2 1 _ rfl).1; have x2 := (HX.out.2 2 _ rfl).1; have x3 := (HX.out.2 3 _ rfl).1; have x4 := (HX.out.2 4 _ rfl).1; have x5 := (HX.out.2 5 _ rfl).1
  have r0 := (R0.out.2 0 _ rfl).1; have r1 := (R0.out.2 1 _ rfl).1; have r2 := (R0.out.2 2 _ rfl).1; have r3 := (R0.out.2 3 _ rfl).1; have r4 := (R0.out.2 4 _ rfl).1; have r5 := (R0.out.2 5 _ rfl).1
  have g0 := (R0.out.2 0 _ rfl).2; have g1 := (R0.out.2 1 _ rfl).2; have g2 := (R0.out.2 2 _ rfl).2; have g3 := (R0.out.2 3 _ rfl).2; have g4 := (R0.out.2 4 _ rfl).2; have g5 := (R0.out.2 5 _ rfl).2
  have E0 : Hid (Below w.heap.size w (w.alloc (.cells #[.slice none 0 0, .int .i64 0, .slice none 0 0, .int .i64 0, .slice none 0 0, .int .i64 0] 27))) := (by go_grown : Below w.heap.size w (w.alloc _))
  have s0 : w.heap.size < (w.alloc (.cells #[.slice none 0 0, .int .i64 0, .slice none 0 0, .int .i64 0, .slice none 0 0, .int .i64 0] 27)).heap.size := by simp
  go_enter Try.func41, Try.ntmps41
  go_wp2
  generalize w.alloc (.cells #[.slice none 0 0, .int .i64 0, .slice none 0 0, .int .i64 0, .slice none 0 0, .int .i64 0] 27) = w0 at *
  go_region_held3 (fun w' => w'.cell? ⟨b, 0, none⟩ = some (.slice A n c) ∧ w'.cell? ⟨b, 1, none⟩ = some (.int .i64 p) ∧ w'.cell? ⟨b, 2, none⟩ = some (.slice A' n' c') ∧ w'.cell? ⟨b, 3, none⟩ = some (.int .i64 q) ∧ w'.cell? ⟨b, 4, none⟩ = some (.slice A2 n2 c2) ∧ w'.cell? ⟨b, 5, none⟩ = some (.int .i64 z)) (refine ⟨?_, ?_, ?_, ?_, ?_, ?_⟩ <;> first | (with_reducible assumption) | (with_reducible exact keep0 x0) | (with_reducible exact keep0 x1) | (with_reducible exact keep0 x2) | (with_reducible exact keep0 x3) | (with_reducible exact keep0 x4) | (with_reducible exact keep0 x5) | (with_reducible exact keep6 x0 hne1) | (with_reducible exact keep6 x1 hne1) | (with_reducible exact keep6 x2 hne1) | (with_reducible exact keep6 x3 hne1) | (with_reducible exact keep6 x4 hne1) | (with_reducible exact keep6 x5 hne1)) (fail)
  go_wp2
  refine bodyPost_ret (v := .agg #[.slice (A) n c, .int .i64 (p), .slice (A') n' c', .int .i64 (q), .slice (A2) n2 c2, .int .i64 (z)]) (by simp [results, Try.results41, go_sem, r0, r1, r2, r3, r4, r5, g0, g1, g2, g3, g4, g5]) rfl ?_
  refine ⟨rfl, ?_⟩
  repeat (first | (with_reducible refine below_set ?_ (by omega) _) | (with_reducible refine Below.drew ?_))
  exact E0.out

def newROut (D : List Int) (p : Int) (S : List Int) (q z : Int) : Rv × Bool := if validR D p S q [] z then (⟨D, p, S, q, [], z⟩, true) else (.zero, false)
theorem newROut_le (D : List Int) (p : Int) (S : List Int) (q z : Int) : (newROut D p S q z).1.d.length ≤ 60 ∧ (newROut D p S q z).1.s.length ≤ 60 ∧ (newROut D p S q z).1.r.length ≤ 60 := by
  unfold newROut
  split
  · obtain ⟨hv, _⟩ := validR_iff.1 ‹_›
    obtain ⟨hb, hs, _⟩ := validD_iff.1 hv
    exact ⟨bytesB_le hb, by show S.length ≤ 60; omega, by show ([] : List Int).length ≤ 60; simp⟩
  · exact ⟨by decide, by decide, by decide⟩
end Go.Proofs.Ytmjmplfhedknhaa
