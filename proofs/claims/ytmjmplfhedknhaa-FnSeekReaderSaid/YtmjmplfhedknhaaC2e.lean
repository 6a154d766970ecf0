/- Contracts of a reader at work: fill. -/
import Derived.Test.YtmjmplfhedknhaaC2b
import Derived.Test.YtmjmplfhedknhaaC2d
import Derived.Deep.RegionHeld3
namespace Go.Proofs.Ytmjmplfhedknhaa
open Go.ChangeShapes Go.WideShapes Go.ChangeAt Go.RowKit
set_option linter.unusedSimpArgs false
set_option linter.unusedVariables false

/-- What fill leaves where nothing was read ahead. -/
def FillPost (b : Nat) (A : Option Addr) (n c : Nat) (p : Int) (A' : Option Addr) (n' c' a : Nat) (D : List Int) (k z : Int) (w : World) (e : Ending) (w' : World) : Prop :=
  ∃ A1 n1 c1, e = .returned (.int .i64 (rdSt D p k)) ∧ n1 ≤ c1 ∧ Turn w.heap.size b w w' ∧ Ints w' w.heap.size w'.heap.size A1 n1 (rdL D p k z) ∧
    Box w' b [.slice (A) n c, .int .i64 (p + ((rdL D p k z).length : Int)), .slice (A') n' c', .int .i64 ((a : Int) + 1), .slice (A1) n1 c1, .int .i64 (z)]

set_option maxHeartbeats 1000000 in
theorem fill_full {A A' A2 : Option Addr} {n c n' c' n2 c2 b : Nat} {p q z : Int} {w : World} (hX : Box w b [.slice (A) n c, .int .i64 (p), .slice (A') n' c', .int .i64 (q), .slice (A2) n2 c2, .int .i64 (z)]) (h0 : 0 < n2) :
    Calls Try.prog 72 #[.pointer (some ⟨b, 0, none⟩)] w (fun e w' => e = .returned (.int .i64 0) ∧ w' = w) := by
  have HX := Lib.hid hX
  have h1 : (0 : Int) < (n2 : Int) := by omega
  have x0 := (HX.out.2 0 _ rfl).1; have x1 := (HX.out.2 1 _ rfl).1; have x2 := (HX.out.2 2 _ rfl).1; have x3 := (HX.out.2 3 _ rfl).1; have x4 := (HX.out.2 4 _ rfl).1; have x5 := (HX.out.2 5 _ rfl).1
  go_enter Try.func72, Try.ntmps72
  go_wp2
  go_ret
  exact ⟨rfl, rfl⟩

set_option maxHeartbeats 2000000 in
theorem fill_any {A A' A2 : Option Addr} {n c n' c' c2 a b : Nat} {D S : List Int} {p z : Int} {w : World} {L B L' B' : Nat} (hX : Box w b [.slice (A) n c, .int .i64 (p), .slice (A') n' c', .int .i64 ((a : Int)), .slice (A2) 0 c2, .int .i64 (z)]) (h : Ints w L B A n D) (h' : Ints w L' B' A' n' S)
    (hb : b < L ∨ B ≤ b) (hb' : b < L' ∨ B' ≤ b) (hB : B ≤ w.heap.size) (hB' : B' ≤ w.heap.size) (hnc : n ≤ c) (hv : validD D p S a = true) (ha : a < 1000) (hz : 1 ≤ z) (hz' : z ≤ 60) :
    Calls Try.prog 72 #[.pointer (some ⟨b, 0, none⟩)] w (FillPost b A n c p A' n' c' a D (mayAt S a) z w) := by
  have HX := Lib.hid hX
  have hread := read_more_any (w := w.drew) (N := z) hX.drew h.drew h'.drew hb hb' hB hB' hnc hv ha hz hz'
  have HR := Lib.hid hread
  clear hread hX
  have x0 := (HX.out.2 0 _ rfl).1; have x1 := (HX.out.2 1 _ rfl).1; have x2 := (HX.out.2 2 _ rfl).1; have x3 := (HX.out.2 3 _ rfl).1; have x4 := (HX.out.2 4 _ rfl).1; have x5 := (HX.out.2 5 _ rfl).1
  go_enter Try.func72, Try.ntmps72
  have hbw := HX.out.lt
  go_wp2_with fail
  go_region_held3 (fun w' => w'.cell? ⟨b, 5, none⟩ = some (.int .i64 z)) (go_keep)
    ((go_at_call 85; refine HR.out.mono ?_; rintro e w1 ⟨A1, n1, c1, rfl, hc1, ht, hi, hx⟩; have HT : Hid (Turn w.heap.size b w w1) := ht; have HI : Hid (Ints w1 w.heap.size w1.heap.size A1 n1 (rdL D p (mayAt S a) z)) := hi; have HX1 := Lib.hid hx; have s1 : w.heap.size ≤ w1.heap.size := ht.size; clear ht hi hx; have x5 := (HX1.out.2 5 _ rfl).1))
  all_goals
   have y0 := (HX1.out.2 0 _ rfl).1; have y1 := (HX1.out.2 1 _ rfl).1; have y2 := (HX1.out.2 2 _ rfl).1; have y3 := (HX1.out.2 3 _ rfl).1; have y4 := (HX1.out.2 4 _ rfl).1; have y5 := (HX1.out.2 5 _ rfl).1
   have f0 := (HX1.out.2 0 _ rfl).2; have f1 := (HX1.out.2 1 _ rfl).2; have f2 := (HX1.out.2 2 _ rfl).2; have f3 := (HX1.out.2 3 _ rfl).2; have f4 := (HX1.out.2 4 _ rfl).2; have f5 := (HX1.out.2 5 _ rfl).2
   go_wp2
   go_ret
   refine ⟨A1, n1, c1, rfl, hc1, HT.out.put _, ?_, ?_⟩
   · simp only [World.size_setCell]
     exact HI.out.set_ (Or.inl hbw) _
   · have hx := HX1.out.put (i := 4) (by simp) (.slice A1 n1 c1)
     simpa using hx

set_option maxHeartbeats 1000000 in
theorem first_any {A A' A2 : Option Addr} {n c n' c' n2 c2 b k m : Nat} {p q z : Int} {w : World} (hX : Box w b [.slice (A) n c, .int .i64 (p), .slice (A') n' c', .int .i64 (q), .slice (A2) n2 c2, .int .i64 (z)]) (hc : n2 ≤ c2) (hm : m = min k n2) (hk : k ≤ 1000000) :
    Calls Try.prog 73 #[.pointer (some ⟨b, 0, none⟩), .int .i64 (k : Int)] w (fun e w' => e = .returned (.slice A2 m m) ∧ w' = w) := by
  have HX := Lib.hid hX
  clear hX
  have hmc : (m : Int) ≤ (c2 : Int) := by omega
  have hm0 : (0 : Int) ≤ (m : Int) := by omega
  have hmm : (m : Int) ≤ (m : Int) := by omega
  have hif : (if (n2 : Int) < (k : Int) then (n2 : Int) else (k : Int)) = (m : Int) := by split <;> omega
  have HM := Lib.hid hm
  clear hm
  have x0 := (HX.out.2 0 _ rfl).1; have x1 := (HX.out.2 1 _ rfl).1; have x2 := (HX.out.2 2 _ rfl).1; have x3 := (HX.out.2 3 _ rfl).1; have x4 := (HX.out.2 4 _ rfl).1; have x5 := (HX.out.2 5 _ rfl).1
  go_enter Try.func73, Try.ntmps73
  go_wp2
  all_goals
    go_ret
    have hm := HM.out
    refine ⟨?_, rfl⟩
    first | (have e : m = n2 := by omega
             subst e
             rfl) | (have e : m = k := by omega
                     subst e
                     rfl)
end Go.Proofs.Ytmjmplfhedknhaa
