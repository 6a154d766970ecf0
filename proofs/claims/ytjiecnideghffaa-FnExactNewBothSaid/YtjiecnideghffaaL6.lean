/- A reader's marks by the exact laws' own helpers: its three slices are written into, and found as written. -/
import Derived.Test.YtjiecnideghffaaL5
namespace Go.Proofs.Ytjiecnideghffaa
open Go.ChangeShapes Go.WideShapes Go.ChangeAt Go.RowKit
set_option maxRecDepth 10000
set_option linter.unusedSimpArgs false
set_option linter.unusedVariables false

/-- Only the three slices' own cells have turned, of what was there. -/
def MarkR (w w' : World) (A : Option Addr) (n : Nat) (A' : Option Addr) (n' : Nat) (A2 : Option Addr) (n2 : Nat) : Prop :=
  w'.os = w.os ∧ w'.tape = w.tape ∧ w'.output = w.output ∧ w.heap.size ≤ w'.heap.size ∧ (∀ b, b < w.heap.size → (0 < n → ∀ ad : Addr, A = some ad → ad.block ≠ b) → (0 < n' → ∀ ad : Addr, A' = some ad → ad.block ≠ b) → (0 < n2 → ∀ ad : Addr, A2 = some ad → ad.block ≠ b) → w'.heap[b]? = w.heap[b]?) ∧
    ∀ b o, b < w.heap.size → OutOf A n b o → OutOf A' n' b o → OutOf A2 n2 b o → SameAt w w' b o
theorem MarkR.size {w w' : World} {A A' A2 : Option Addr} {n n' n2 : Nat} (h : MarkR w w' A n A' n' A2 n2) : w.heap.size ≤ w'.heap.size := h.2.2.2.1
theorem Ints.markR {w w' : World} {A A' A2 X : Option Addr} {n n' n2 m lo hi : Nat} {xs : List Int} (h : Ints w lo hi X m xs) (hm : MarkR w w' A n A' n' A2 n2) (hB : hi ≤ w.heap.size) (ha : Apart A n X m) (ha' : Apart A' n' X m) (ha2 : Apart A2 n2 X m) : Ints w' lo hi X m xs := by
  by_cases h0 : m = 0
  · subst h0
    exact ⟨h.1, h.2.1, h.2.2.1, fun hn => absurd hn (by omega)⟩
  · obtain ⟨b, o, e, h1, h2, hc⟩ := h.2.2.2 (by omega)
    refine ⟨h.1, h.2.1, h.2.2.1, fun _ => ⟨b, o, e, h1, h2, fun j x hx => ?_⟩⟩
    have hj : j < m := by have := h.1; have := (List.getElem?_eq_some_iff.1 hx).1; omega
    have hs := hm.2.2.2.2.2 b (o + j) (by omega) (OutOf.of_apart ha e hj) (OutOf.of_apart ha' e hj) (OutOf.of_apart ha2 e hj)
    exact ⟨hs.1.trans (hc j x hx).1, hs.2.trans (hc j x hx).2⟩
theorem Box.markR {w w' : World} {A A' A2 : Option Addr} {n n' n2 lo hi lo' hi' lo2 hi2 b : Nat} {xs xs' xs2 : List Int} {cs : List Value} (hx : Box w b cs) (hm : MarkR w w' A n A' n' A2 n2) (h : Ints w lo hi A n xs) (h' : Ints w lo' hi' A' n' xs') (g : Ints w lo2 hi2 A2 n2 xs2) (hb : b < lo ∨ hi ≤ b) (hb' : b < lo' ∨ hi' ≤ b) (hb2 : b < lo2 ∨ hi2 ≤ b) : Box w' b cs :=
  hx.block (hm.2.2.2.2.1 b hx.1 (not_in h hb) (not_in h' hb') (not_in g hb2)) hm.size
theorem below_markR {a w w' : World} {A A' A2 : Option Addr} {n n' n2 lo hi lo' hi' lo2 hi2 B : Nat} {xs xs' xs2 : List Int} (hx : Below B a w) (hm : MarkR w w' A n A' n' A2 n2) (h : Ints w lo hi A n xs) (h' : Ints w lo' hi' A' n' xs') (g : Ints w lo2 hi2 A2 n2 xs2) (hb : B ≤ lo) (hb' : B ≤ lo') (hb2 : B ≤ lo2) (hB : B ≤ w.heap.size) : Below B a w' :=
  hx.trans ⟨hm.1, hm.2.1, hm.2.2.1, hm.size, fun k hk => hm.2.2.2.2.1 k (by omega) (not_in h (.inl (by omega))) (not_in h' (.inl (by omega))) (not_in g (.inl (by omega)))⟩
def MarkRPost (A : Option Addr) (n lo hi : Nat) (A' : Option Addr) (n' lo' hi' : Nat) (A2 : Option Addr) (n2 lo2 hi2 : Nat) (k : Int) (w : World) (e : Ending) (w' : World) : Prop :=
  e = .returned (.int .i64 (k + (n : Int) + (n' : Int) + (n2 : Int))) ∧ MarkR w w' A n A' n' A2 n2 ∧ Ints w' lo hi A n (seqI k n) ∧ Ints w' lo' hi' A' n' (seqI (k + (n : Int)) n') ∧ Ints w' lo2 hi2 A2 n2 (seqI (k + (n : Int) + (n' : Int)) n2)

set_option maxHeartbeats 1000000 in
theorem markReader_any {A A' A2 : Option Addr} {n c n' c' n2 c2 : Nat} {D S R : List Int} {p q z k : Int} {w : World} {L L' B B' M C : Nat} (h : Ints w L B A n D) (h' : Ints w L' B' A' n' S) (g : Ints w M C A2 n2 R) (hap : Apart A n A' n') (hap1 : Apart A2 n2 A n) (hap2 : Apart A2 n2 A' n') (hB : B ≤ w.heap.size) (hB' : B' ≤ w.heap.size) (hC : C ≤ w.heap.size)
    (hk : 0 ≤ k) (hk2 : k ≤ 10000000) (hn : n ≤ 1048576) (hn' : n' ≤ 1048576) (hn2 : n2 ≤ 1048576) :
    Calls Try.prog 29 #[.agg #[.slice (A) n c, .int .i64 (p), .slice (A') n' c', .int .i64 (q), .slice (A2) n2 c2, .int .i64 (z)], .int .i64 k] w (MarkRPost A n L B A' n' L' B' A2 n2 M C k w) := by
  have H1 := Lib.hid (h.alloc hB (.cells #[.slice (A) n c, .int .i64 (p), .slice (A') n' c', .int .i64 (q), .slice (A2) n2 c2, .int .i64 (z)] 40))
  have H2 := Lib.hid (h'.alloc hB' (.cells #[.slice (A) n c, .int .i64 (p), .slice (A') n' c', .int .i64 (q), .slice (A2) n2 c2, .int .i64 (z)] 40))
  have H3 := Lib.hid (g.alloc hC (.cells #[.slice (A) n c, .int .i64 (p), .slice (A') n' c', .int .i64 (q), .slice (A2) n2 c2, .int .i64 (z)] 40))
  have X0 := Lib.hid (Box.new w 40 [.slice (A) n c, .int .i64 (p), .slice (A') n' c', .int .i64 (q), .slice (A2) n2 c2, .int .i64 (z)])
  go_enter Try.func29, Try.ntmps29
  go_wp2_with fail
  refine (markDevice_any H1.out H2.out hap (by first | omega | (simp; omega) | (simp; done)) (by first | omega | (simp; omega) | (simp; done)) hk (by omega) hn hn').mono ?_
  rintro e w1 ⟨rfl, hm1, hi1, hi1'⟩
  have HM1 := Lib.hid hm1
  have HI1 := Lib.hid hi1
  have HI1' := Lib.hid hi1'
  have X1 := Lib.hid (X0.out.markD hm1 H1.out H2.out (.inr (by omega)) (.inr (by omega)))
  have I2 := Lib.hid (H3.out.markD hm1 (by first | omega | (simp; omega) | (simp; done)) hap1.symm hap2.symm)
  have s1 := Lib.hid hm1.size
  clear hm1 hi1 hi1'
  have x0 := (X1.out.2 0 _ rfl).1; have x1 := (X1.out.2 1 _ rfl).1; have x2 := (X1.out.2 2 _ rfl).1; have x3 := (X1.out.2 3 _ rfl).1; have x4 := (X1.out.2 4 _ rfl).1; have x5 := (X1.out.2 5 _ rfl).1
  go_wp2_with fail
  refine (markIntS_any I2.out (by omega) (by omega) hn2).mono ?_
  rintro e w2 ⟨rfl, hm2, hi2⟩
  have HM2 := Lib.hid hm2
  have HI2 := Lib.hid hi2
  have s2 := Lib.hid hm2.size
  clear hm2 hi2
  go_wp2
  go_ret
  have e1 := s1.out
  have e2 := s2.out
  simp only [World.size_alloc] at e1
  refine ⟨rfl, ⟨HM2.out.1.trans HM1.out.1, HM2.out.2.1.trans HM1.out.2.1, HM2.out.2.2.1.trans HM1.out.2.2.1, by omega, fun b hb hx hy hz => ?_, fun b o hb hx hy hz => ?_⟩, HI1.out.mark HM2.out hap1, HI1'.out.mark HM2.out hap2, HI2.out⟩
  · exact ((HM2.out.2.2.2.2.1 b hz).trans (HM1.out.2.2.2.2.1 b (by simp; omega) hx hy)).trans (Below.heap_alloc w _ b hb)
  · exact ((SameAt.of_block (Below.heap_alloc w _ b hb)).trans (HM1.out.2.2.2.2.2 b o (by simp; omega) hx hy)).trans (HM2.out.2.2.2.2.2 b o hz)

set_option maxHeartbeats 1000000 in
theorem heldReader_any {A A' A2 : Option Addr} {n c n' c' n2 c2 : Nat} {p q z k : Int} {w : World} {L L' B B' M C : Nat} (h : Ints w L B A n (seqI k n)) (h' : Ints w L' B' A' n' (seqI (k + (n : Int)) n')) (g : Ints w M C A2 n2 (seqI (k + (n : Int) + (n' : Int)) n2)) (hB : B ≤ w.heap.size) (hB' : B' ≤ w.heap.size) (hC : C ≤ w.heap.size)
    (hk : 0 ≤ k) (hk2 : k ≤ 10000000) (hn : n ≤ 1048576) (hn' : n' ≤ 1048576) (hn2 : n2 ≤ 1048576) :
    Calls Try.prog 30 #[.agg #[.slice (A) n c, .int .i64 (p), .slice (A') n' c', .int .i64 (q), .slice (A2) n2 c2, .int .i64 (z)], .int .i64 k] w fun e w' => e = .returned (.int .i64 (k + (n : Int) + (n' : Int) + (n2 : Int))) ∧ Below w.heap.size w w' := by
  have H1 := Lib.hid (h.alloc hB (.cells #[.slice (A) n c, .int .i64 (p), .slice (A') n' c', .int .i64 (q), .slice (A2) n2 c2, .int .i64 (z)] 40))
  have H2 := Lib.hid (h'.alloc hB' (.cells #[.slice (A) n c, .int .i64 (p), .slice (A') n' c', .int .i64 (q), .slice (A2) n2 c2, .int .i64 (z)] 40))
  have H3 := Lib.hid (g.alloc hC (.cells #[.slice (A) n c, .int .i64 (p), .slice (A') n' c', .int .i64 (q), .slice (A2) n2 c2, .int .i64 (z)] 40))
  have X0 := Lib.hid (Box.new w 40 [.slice (A) n c, .int .i64 (p), .slice (A') n' c', .int .i64 (q), .slice (A2) n2 c2, .int .i64 (z)])
  go_enter Try.func30, Try.ntmps30
  go_wp2_with fail
  refine (heldDevice_any H1.out H2.out (by first | omega | (simp; omega) | (simp; done)) (by first | omega | (simp; omega) | (simp; done)) hk (by omega) hn hn').mono ?_
  rintro e w1 ⟨rfl, hb⟩
  (try simp only [World.size_alloc, World.size_setCell, World.size_drew] at hb)
  have X1 := Lib.hid (X0.out.below hb (by omega))
  have I3 := Lib.hid (H3.out.below hb (by first | omega | (simp; omega) | (simp; done)))
  have HB := Lib.hid hb
  clear hb
  have x0 := (X1.out.2 0 _ rfl).1; have x1 := (X1.out.2 1 _ rfl).1; have x2 := (X1.out.2 2 _ rfl).1; have x3 := (X1.out.2 3 _ rfl).1; have x4 := (X1.out.2 4 _ rfl).1; have x5 := (X1.out.2 5 _ rfl).1
  go_wp2_with fail
  refine (heldIntS_any I3.out (by omega) (by omega) hn2).mono ?_
  rintro e w2 ⟨rfl, rfl⟩
  go_wp2
  go_ret
  exact ⟨rfl, below_step HB.out (by go_grown) (by omega)⟩
end Go.Proofs.Ytjiecnideghffaa
