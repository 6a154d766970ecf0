/- Contracts of impl's copies. -/
import Derived.Test.YtdiebkaedjlckaaDoorL3
import Derived.Laws.CopyOwn
namespace Go.Proofs.YtdiebkaedjlckaaDoor
open Go.ChangeShapes Go.WideShapes Go.ChangeAt Go.RowKit
set_option linter.unusedSimpArgs false
set_option linter.unusedVariables false

/-- A list in new memory, nil let in. -/
def ListPost (xs : List Int) (w : World) (e : Ending) (w' : World) : Prop :=
  ∃ A n c, e = .returned (.slice A n c) ∧ n ≤ c ∧ Below w.heap.size w w' ∧ Ints w' w.heap.size w'.heap.size A n xs

theorem Ints.of_cells {w : World} {b t lo hi : Nat} {xs : List Int} (hb : w.heap[b]? = some (.cells (xs.map (Value.int .i64)).toArray t (0, 0))) (hm : xs.length ≤ 9223372036854775807) (hok : ∀ x ∈ xs, okInt x) (h1 : lo ≤ b) (h2 : b < hi) :
    Ints w lo hi (some ⟨b, 0, none⟩) xs.length xs :=
  ⟨rfl, hm, hok, fun _ => ⟨b, 0, rfl, h1, h2, fun j x hx => by
    rw [Nat.zero_add]
    exact ⟨by simp [World.cell?, hb, hx], by simp [World.frozen?, hb]⟩⟩⟩
theorem Ints.cellsOf {w : World} {lo hi n : Nat} {A : Option Addr} {xs : List Int} (h : Ints w lo hi A n xs) (hp : 0 < n) :
    ∃ ad : Addr, A = some ad ∧ ∀ (j : Nat) (x : Int), xs[j]? = some x → w.cell? (ad.add j) = some (.int .i64 x) := by
  obtain ⟨b, o, e, _, _, hc⟩ := h.2.2.2 hp
  refine ⟨_, e, fun j x hx => ?_⟩
  rw [add_plain]
  exact (hc j x hx).1
theorem splice_all (n : Nat) (cs : List Value) (h : cs.length = n) : splice (madeCells #[.int .i64 0] n).toList 0 cs = cs := by
  simp [splice, size_madeCells, h]

theorem sizeInt : (Tryd.prog.info? 3).map (·.size) = some 1 := by kernel_rfl

set_option maxHeartbeats 1000000 in
theorem copyList_any {A : Option Addr} {n c : Nat} {xs : List Int} {w : World} {L B : Nat} (h : Ints w L B A n xs) (hB : B ≤ w.heap.size) (hn : n ≤ 1048576) :
    Calls Tryd.prog 100 #[.slice A n c] w (ListPost xs w) := by
  have HL := Lib.hid h.len
  have hok := Lib.hid h.ok
  by_cases h0 : n = 0
  · subst h0
    go_enter Tryd.func100, Tryd.ntmps100
    go_wp2
    go_ret
    have : xs = [] := List.eq_nil_of_length_eq_zero HL.out.symm
    subst this
    exact ⟨none, 0, 0, rfl, Nat.le_refl _, Below.refl _ _, (Ints.nil _ _ _ 0 _).1⟩
  · have hmk := run_make_row' (P := Tryd.prog) 22 3 (.int .i64 0) 8 Tryd.underlying22 infoInt rfl .i64 .i64 n (by omega) (by omega)
    have hz : ((n : Int) == 0) = false := by simp; omega
    have H := Lib.hid (h.alloc hB (.cells (madeCells #[.int .i64 0] n) 3))
    clear h
    go_enter Tryd.func100, Tryd.ntmps100
    go_wp2_with (with_reducible refine wpList_copy_splice (o := ⟨some 12, _, _, _, _, _⟩) rfl (.tmp 10) (.tmp 11) 22 22 rfl 3 Tryd.underlying22 sizeInt _ _ _ _ _ _ rfl rfl w.heap.size 0 (madeCells #[.int .i64 0] n).toList 3 ?c1 (xs.map (Value.int .i64)) ?c2 ?c3 ?c4 ?c5 w.heap.size w ?c6 (Nat.le_refl _) ?_)
    case c1 => exact Go.Deep.blk_alloc_new _ _
    case c2 => simp [← HL.out]
    case c3 => exact fun hp => H.out.cellsOf (by omega)
    case c4 => simp [size_madeCells, HL.out]
    case c5 => simp [Value.oneCell']
    case c6 => go_grown
    intro w1 hw1 hb1
    have HB1 := Lib.hid hb1
    have HW1 := Lib.hid hw1
    clear hb1 hw1
    go_wp2
    go_ret
    have hw1 := HW1.out.out
    rw [splice_all _ _ (by simp [HL.out])] at hw1
    have h2 : w.heap.size < w1.heap.size := (Array.getElem?_eq_some_iff.1 hw1).1
    refine ⟨_, _, _, rfl, Nat.le_refl _, HB1.out, ?_⟩
    have hl := HL.out
    subst hl
    exact Ints.of_cells hw1 (by omega) hok.out (Nat.le_refl _) h2

set_option maxHeartbeats 1000000 in
theorem copyDevice_any {A A' : Option Addr} {n c n' c' : Nat} {D S : List Int} {p q : Int} {w : World} {L L' B B' : Nat} (h : Ints w L B A n D) (h' : Ints w L' B' A' n' S) (hB : B ≤ w.heap.size) (hB' : B' ≤ w.heap.size)
    (hn : n ≤ 1048576) (hn' : n' ≤ 1048576) (hp : okInt p) (hq : okInt q) :
    Calls Tryd.prog 99 #[.agg #[.slice (A) n c, .int .i64 (p), .slice (A') n' c', .int .i64 (q)]] w (DevPost D p S q w) := by
  have H1 := Lib.hid (fun o1 o2 => (h.alloc hB o1).alloc (by first | omega | (simp; omega) | (simp; done)) o2)
  have H2 := Lib.hid (fun o1 o2 => (h'.alloc hB' o1).alloc (by first | omega | (simp; omega) | (simp; done)) o2)
  have X0 := Lib.hid ((Box.new w 28 [.slice (A) n c, .int .i64 (p), .slice (A') n' c', .int .i64 (q)]).alloc (.cells #[.slice none 0 0, .int .i64 0, .slice none 0 0, .int .i64 0] 28))
  have R0 := Lib.hid (Box.new (w.alloc (.cells #[.slice (A) n c, .int .i64 (p), .slice (A') n' c', .int .i64 (q)] 28)) 28 [.slice none 0 0, .int .i64 0, .slice none 0 0, .int .i64 0])
  (try simp only [World.size_alloc, World.size_setCell, World.size_drew] at R0)
  go_enter Tryd.func99, Tryd.ntmps99
  go_wp2_with fail
  refine (copyList_any (H1.out _ _) (by first | omega | (simp; omega) | (simp; done)) hn).mono ?_
  rintro e w1 ⟨A1, n1, c1, rfl, hcc1, hb1, hi1⟩
  (try simp only [World.size_alloc, World.size_setCell, World.size_drew] at hb1 hi1)
  have HB1 := Lib.hid hb1
  have HI1 := Lib.hid hi1
  have s1 := hb1.size
  (try simp only [World.size_alloc, World.size_setCell, World.size_drew] at s1)
  clear hb1 hi1
  have X1 := Lib.hid (X0.out.below HB1.out (by omega))
  have R1 := Lib.hid (R0.out.below HB1.out (by omega))
  clear X0 R0
  have x0 := (X1.out.2 0 _ rfl).1; have x1 := (X1.out.2 1 _ rfl).1; have x2 := (X1.out.2 2 _ rfl).1; have x3 := (X1.out.2 3 _ rfl).1
  have f0 := (X1.out.2 0 _ rfl).2; have f1 := (X1.out.2 1 _ rfl).2; have f2 := (X1.out.2 2 _ rfl).2; have f3 := (X1.out.2 3 _ rfl).2
  go_wp2_with fail
  clear x0 x1 x2 x3
  clear f0 f1 f2 f3
  refine (copyList_any (((H2.out _ _).below HB1.out (by omega)).set_ (by omega) _) (by first | omega | (simp; omega) | (simp; done)) hn').mono ?_
  rintro e w2 ⟨A2, n2, c2, rfl, hcc2, hb2, hi2⟩
  (try simp only [World.size_alloc, World.size_setCell, World.size_drew] at hb2 hi2)
  have HB2 := Lib.hid hb2
  have HI2 := Lib.hid hi2
  have s2 := hb2.size
  (try simp only [World.size_alloc, World.size_setCell, World.size_drew] at s2)
  clear hb2 hi2
  have X2 := Lib.hid ((X1.out.put (i := 0) (by simp) (.slice A1 n1 c1)).below HB2.out (by omega))
  have R2 := Lib.hid ((R1.out.set_ (b' := w.heap.size) (o := 0) (by omega) (.slice A1 n1 c1)).below HB2.out (by omega))
  clear X1 R1
  have x0 := (X2.out.2 0 _ rfl).1; have x1 := (X2.out.2 1 _ rfl).1; have x2 := (X2.out.2 2 _ rfl).1; have x3 := (X2.out.2 3 _ rfl).1
  have f0 := (X2.out.2 0 _ rfl).2; have f1 := (X2.out.2 1 _ rfl).2; have f2 := (X2.out.2 2 _ rfl).2; have f3 := (X2.out.2 3 _ rfl).2
  have r0 := (R2.out.2 0 _ rfl).1; have r1 := (R2.out.2 1 _ rfl).1; have r2 := (R2.out.2 2 _ rfl).1; have r3 := (R2.out.2 3 _ rfl).1
  have t0 := (R2.out.2 0 _ rfl).2; have t1 := (R2.out.2 1 _ rfl).2; have t2 := (R2.out.2 2 _ rfl).2; have t3 := (R2.out.2 3 _ rfl).2
  go_wp2_with fail
  refine bodyPost_ret (v := .agg #[.slice (A1) n1 c1, .int .i64 (p), .slice (A2) n2 c2, .int .i64 (q)]) (by simp [results, Tryd.results99, go_sem, x0, x1, x2, x3, f0, f1, f2, f3, r0, r1, r2, r3, t0, t1, t2, t3]) rfl ?_
  refine ⟨_, _, _, _, _, _, rfl, ⟨by omega, by omega⟩, ?_, ?_⟩
  · have e1 : Below w.heap.size w w1 := below_step HB1.out (by go_grown) (by omega)
    have e2 : Below w.heap.size w w2 := below_step HB2.out (by (repeat (with_reducible refine below_set ?_ (by omega) _)); exact e1) (by omega)
    (repeat (with_reducible refine below_set ?_ (by omega) _))
    exact e2
  · simp only [World.size_setCell]
    have i1 : Ints w2 (w.heap.size + 1 + 1) w1.heap.size A1 n1 D := by
      refine Ints.below ?_ HB2.out (by omega)
      (repeat (with_reducible refine Ints.set_ ?_ (by omega) _))
      exact HI1.out
    refine ⟨?_, ?_, Apart.of_le i1 HI2.out (by omega), hp, hq⟩
    · refine Ints.more (lo := w.heap.size + 1 + 1) (hi := w1.heap.size) ?_ (by omega) (by omega)
      (repeat (with_reducible refine Ints.set_ ?_ (by omega) _))
      exact i1
    · refine Ints.more (lo := w1.heap.size) (hi := w2.heap.size) ?_ (by omega) (by omega)
      (repeat (with_reducible refine Ints.set_ ?_ (by omega) _))
      exact HI2.out
end Go.Proofs.YtdiebkaedjlckaaDoor
