/- Contracts of the model's copies. -/
import Derived.Test.YtdiebkaedjlckaaDoorApp2
import Derived.Test.YtdiebkaedjlckaaDoorC1f
namespace Go.Proofs.YtdiebkaedjlckaaDoor
open Go.ChangeShapes Go.WideShapes Go.ChangeAt Go.RowKit
set_option linter.unusedSimpArgs false
set_option linter.unusedVariables false

/-- A row of the call's own that reads as xs. -/
def OwnPost (xs : List Int) (w : World) (e : Ending) (w' : World) : Prop := ∃ v, e = .returned v ∧ Below w.heap.size w w' ∧ OwnI w' w.heap.size v xs.length xs
set_option maxHeartbeats 1000000 in
theorem copyInts_own {A : Option Addr} {n c : Nat} {xs : List Int} {w : World} {L B : Nat} (h : Ints w L B A n xs) (hB : B ≤ w.heap.size) (hn : n ≤ 1048576) :
    Calls Tryd.prog 88 #[.slice A n c] w (OwnPost xs w) := by
  have HL := Lib.hid h.len
  have H1 := Lib.hid (h.alloc hB (.cells #[] 3))
  clear h
  go_enter Tryd.func88, Tryd.ntmps88
  go_wp2_with (at_builtin; refine wpList_append_ints rfl (.tmp 3) (.tmp 4) rfl w.heap.size (.slice (some ⟨w.heap.size, 0, none⟩) 0 0) 0 [] rfl (OwnI.made w (Nat.le_refl _)) A n c xs rfl H1.out (by omega) (by simp) ?_)
  intro v' w' hown hg
  have HO := Lib.hid hown
  have HG := Lib.hid hg
  clear hown hg
  go_wp2
  go_ret
  have hl := HL.out
  subst hl
  exact ⟨v', rfl, (by go_grown : Below w.heap.size w (w.alloc _)).trans (below_grown (OwnI.made w (Nat.le_refl _)) HG.out (by simp)), HO.out⟩
theorem copyInts_any {A : Option Addr} {n c : Nat} {xs : List Int} {w : World} {L B : Nat} (h : Ints w L B A n xs) (hB : B ≤ w.heap.size) (hn : n ≤ 1048576) :
    Calls Tryd.prog 88 #[.slice A n c] w (ListPost xs w) :=
  (copyInts_own h hB hn).mono fun e w' hh => by
    obtain ⟨v, he, hb, ho⟩ := hh
    obtain ⟨A1, c1, rfl, hc, hi⟩ := ho.ints h.ok
    exact ⟨A1, _, c1, he, hc, hb, hi⟩

set_option maxHeartbeats 1000000 in
theorem sCopyDevice_any {A A' : Option Addr} {n c n' c' : Nat} {D S : List Int} {p q : Int} {w : World} {L L' B B' : Nat} (h : Ints w L B A n D) (h' : Ints w L' B' A' n' S) (hB : B ≤ w.heap.size) (hB' : B' ≤ w.heap.size)
    (hn : n ≤ 1048576) (hn' : n' ≤ 1048576) (hp : okInt p) (hq : okInt q) :
    Calls Tryd.prog 89 #[.agg #[.slice (A) n c, .int .i64 (p), .slice (A') n' c', .int .i64 (q)]] w (DevPost D p S q w) := by
  have H1 := Lib.hid (fun o1 o2 => (h.alloc hB o1).alloc (by first | omega | (simp; omega) | (simp; done)) o2)
  have H2 := Lib.hid (fun o1 o2 => (h'.alloc hB' o1).alloc (by first | omega | (simp; omega) | (simp; done)) o2)
  have X0 := Lib.hid ((Box.new w 28 [.slice (A) n c, .int .i64 (p), .slice (A') n' c', .int .i64 (q)]).alloc (.cells #[.slice none 0 0, .int .i64 0, .slice none 0 0, .int .i64 0] 28))
  have R0 := Lib.hid (Box.new (w.alloc (.cells #[.slice (A) n c, .int .i64 (p), .slice (A') n' c', .int .i64 (q)] 28)) 28 [.slice none 0 0, .int .i64 0, .slice none 0 0, .int .i64 0])
  (try simp only [World.size_alloc, World.size_setCell, World.size_drew] at R0)
  have x0 := (X0.out.2 0 _ rfl).1; have x1 := (X0.out.2 1 _ rfl).1; have x2 := (X0.out.2 2 _ rfl).1; have x3 := (X0.out.2 3 _ rfl).1
  have r0 := (R0.out.2 0 _ rfl).1; have r1 := (R0.out.2 1 _ rfl).1; have r2 := (R0.out.2 2 _ rfl).1; have r3 := (R0.out.2 3 _ rfl).1
  have f0 := (R0.out.2 0 _ rfl).2; have f1 := (R0.out.2 1 _ rfl).2; have f2 := (R0.out.2 2 _ rfl).2; have f3 := (R0.out.2 3 _ rfl).2
  go_enter Tryd.func89, Tryd.ntmps89
  go_wp2_with fail
  go_region_held3 (fun w' => w'.cell? ⟨w.heap.size, 0, none⟩ = some (.slice A n c) ∧ w'.cell? ⟨w.heap.size, 1, none⟩ = some (.int .i64 p) ∧ w'.cell? ⟨w.heap.size, 2, none⟩ = some (.slice A' n' c') ∧ w'.cell? ⟨w.heap.size, 3, none⟩ = some (.int .i64 q)) (go_keep)
    (first | (go_at_call 88; (with_reducible refine (copyInts_any (H1.out _ _).drew (by first | omega | (simp; omega) | (simp; done)) hn).mono ?_); rintro e w1 ⟨A1, n1, c1, rfl, hc1, hb1, hi1⟩; (try simp only [World.size_alloc, World.size_setCell, World.size_drew] at hb1 hi1); have HB1 := Lib.hid hb1; have HI1 := Lib.hid hi1; have s1 := hb1.size; (try simp only [World.size_alloc, World.size_setCell, World.size_drew] at s1); have X1 := Lib.hid (X0.out.drew.below hb1 (by omega)); have R1 := Lib.hid (R0.out.drew.below hb1 (by omega)); clear hb1 hi1; clear x0 x1 x2 x3; clear r0 r1 r2 r3; clear f0 f1 f2 f3; have x0 := (X1.out.2 0 _ rfl).1; have x1 := (X1.out.2 1 _ rfl).1; have x2 := (X1.out.2 2 _ rfl).1; have x3 := (X1.out.2 3 _ rfl).1; have r0 := (R1.out.2 0 _ rfl).1; have r1 := (R1.out.2 1 _ rfl).1; have r2 := (R1.out.2 2 _ rfl).1; have r3 := (R1.out.2 3 _ rfl).1; have f0 := (R1.out.2 0 _ rfl).2; have f1 := (R1.out.2 1 _ rfl).2; have f2 := (R1.out.2 2 _ rfl).2; have f3 := (R1.out.2 3 _ rfl).2) | (go_at_call 88; (with_reducible refine (copyInts_any ((H2.out _ _).drew.below HB1.out (by omega)) (by omega) hn').mono ?_); rintro e w2 ⟨A2, n2, c2, rfl, hc2, hb2, hi2⟩; (try simp only [World.size_alloc, World.size_setCell, World.size_drew] at hb2 hi2); have HB2 := Lib.hid hb2; have HI2 := Lib.hid hi2; have s2 := hb2.size; have X2 := Lib.hid (X1.out.below hb2 (by omega)); have R2 := Lib.hid (R1.out.below hb2 (by omega)); clear hb2 hi2; clear x0 x1 x2 x3; clear r0 r1 r2 r3; clear f0 f1 f2 f3; have x0 := (X2.out.2 0 _ rfl).1; have x1 := (X2.out.2 1 _ rfl).1; have x2 := (X2.out.2 2 _ rfl).1; have x3 := (X2.out.2 3 _ rfl).1; have r0 := (R2.out.2 0 _ rfl).1; have r1 := (R2.out.2 1 _ rfl).1; have r2 := (R2.out.2 2 _ rfl).1; have r3 := (R2.out.2 3 _ rfl).1; have f0 := (R2.out.2 0 _ rfl).2; have f1 := (R2.out.2 1 _ rfl).2; have f2 := (R2.out.2 2 _ rfl).2; have f3 := (R2.out.2 3 _ rfl).2))
  go_wp2
  refine bodyPost_ret (v := .agg #[.slice (A1) n1 c1, .int .i64 (p), .slice (A2) n2 c2, .int .i64 (q)]) (by simp [results, Tryd.results89, go_sem, r0, r1, r2, r3, f0, f1, f2, f3]) rfl ?_
  refine ⟨_, _, _, _, _, _, rfl, ⟨by omega, by omega⟩, ?_, ?_⟩
  · have e1 : Below w.heap.size w w1 := below_step HB1.out ((by go_grown : Below w.heap.size w ((w.alloc _).alloc _)).drew) (by omega)
    have e2 : Below w.heap.size w w2 := below_step HB2.out e1 (by omega)
    (repeat (with_reducible refine below_set ?_ (by omega) _))
    exact e2
  · simp only [World.size_setCell]
    have i1 : Ints w2 (w.heap.size + 1 + 1) w1.heap.size A1 n1 D := HI1.out.below HB2.out (by omega)
    refine ⟨?_, ?_, Apart.of_le i1 HI2.out (by omega), hp, hq⟩
    · refine Ints.more (lo := w.heap.size + 1 + 1) (hi := w1.heap.size) ?_ (by omega) (by omega)
      (repeat (with_reducible refine Ints.set_ ?_ (by omega) _))
      exact i1
    · refine Ints.more (lo := w1.heap.size) (hi := w2.heap.size) ?_ (by omega) (by omega)
      (repeat (with_reducible refine Ints.set_ ?_ (by omega) _))
      exact HI2.out
end Go.Proofs.YtdiebkaedjlckaaDoor
