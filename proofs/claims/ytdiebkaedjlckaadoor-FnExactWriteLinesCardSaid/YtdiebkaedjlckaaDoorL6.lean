/- A reader's marks by the exact laws' own helpers: its three slices are written into, and found as written. -/
import Derived.Test.YtdiebkaedjlckaaDoorL5
namespace Go.Proofs.YtdiebkaedjlckaaDoor
open Go.ChangeShapes Go.WideShapes Go.ChangeAt Go.RowKit
set_option maxRecDepth 10000
set_option linter.unusedSimpArgs false
set_option linter.unusedVariables false

/-- Only the three slices' own cells have turned, of what was there. -/
def MarkR (w w' : World) (A : Option Addr) (n : Nat) (A' : Option Addr) (n' : Nat) (A2 : Option Addr) (n2 : Nat) : Prop :=
  w'.os = w.os ∧ w'.tape = w.tape ∧ w'.output = w.output ∧ w.heap.size ≤ w'.heap.size ∧ (∀ b, b < w.heap.size → (0 < n → ∀ ad : Addr, A = some ad → ad.block ≠ b) → (0 < n' → ∀ ad : Addr, A' = some ad → ad.block ≠ b) → (0 < n2 → ∀ ad : Addr, A2 = some ad → ad.block ≠ b) → w'.heap[b]? = w.heap[b]?) ∧
    ∀ b o, b < w.heap.size → OutOf A n b o → OutOf A' n' b o → OutOf A2 n2 b o → SameAt w w' b o
theorem MarkR.size {w w' : World} {A A' A2 : Option Addr} {n n' n2 : Nat} (h : MarkR w w' A n A' n' A2 n2) : w.heap.size ≤ w'.heap.size := h.2.2.2.1
theorem Ints.markR {w w' : World} {A A' A2 X : Option Addr} {n n' n2 m lo hi : Nat} {xs : List Int} (h : Ints w lo hi X m xs) (hm : MarkR w w' A n A' n' A2 n2) (hB : hi ≤ w.heap.size) (ha : Apart A n X m) (ha' : Apart A' n' X m) (ha2 : Apart A2 n2 X m) : Ints w' lo hi X m xs := by
  by_cases h0 : m = 0
  · subst h0
    exact ⟨h.1, h.2.1, h.2.2.1, fun hn => absurd hn (by omega)⟩
  · obtain ⟨b, o, e, h1, h2, hc⟩ := h.2.2.2 (by omega)
    refine ⟨h.1, h.2.1, h.2.2.1, fun _ => ⟨b, o, e, h1, h2, fun j x hx => ?_⟩⟩
    have hj : j < m := by have := h.1; have := (List.getElem?_eq_some_iff.1 hx).1; omega
    have hs := hm.2.2.2.2.2 b (o + j) (by omega) (OutOf.of_apart ha e hj) (OutOf.of_apart ha' e hj) (OutOf.of_apart ha2 e hj)
    exact ⟨hs.1.trans (hc j x hx).1, hs.2.trans (hc j x hx).2⟩
theorem Box.markR {w w' : World} {A A' A2 : Option Addr} {n n' n2 lo hi lo' hi' lo2 hi2 b : Nat} {xs xs' xs2 : List Int} {cs : List Value} (hx : Box w b cs) (hm : MarkR w w' A n A' n' A2 n2) (h : Ints w lo hi A n xs) (h' : Ints w lo' hi' A' n' xs') (g : Ints w lo2 hi2 A2 n2 xs2) (hb : b < lo ∨ hi ≤ b) (hb' : b < lo' ∨ hi' ≤ b) (hb2 : b < lo2 ∨ hi2 ≤ b) : Box w' b cs :=
  hx.block (hm.2.2.2.2.1 b hx.1 (not_in h hb) (not_in h' hb') (not_in g hb2)) hm.size
theorem below_markR {a w w' : World} {A A' A2 : Option Addr} {n n' n2 lo hi lo' hi' lo2 hi2 B : Nat} {xs xs' xs2 : List Int} (hx : Below B a w) (hm : MarkR w w' A n A' n' A2 n2) (h : Ints w lo hi A n xs) (h' : Ints w lo' hi' A' n' xs') (g : Ints w lo2 hi2 A2 n2 xs2) (hb : B ≤ lo) (hb' : B ≤ lo') (hb2 : B ≤ lo2) (hB : B ≤ w.heap.size) : Below B a w' :=
  hx.trans ⟨hm.1, hm.2.1, hm.2.2.1, hm.size, fun k hk => hm.2.2.2.2.1 k (by omega) (not_in h (.inl (by omega))) (not_in h' (.inl (by omega))) (not_in g (.inl (by omega)))⟩
def MarkRPost (A : Option Addr) (n lo hi : Nat) (A' : Option Addr) (n' lo' hi' : Nat) (A2 : Option Addr) (n2 lo2 hi2 : Nat) (k : Int) (w : World) (e : Ending) (w' : World) : Prop :=
  e = .returned (.int .i64 (k + (n : Int) + (n' : Int) + (n2 : Int))) ∧ MarkR w w' A n A' n' A2 n2 ∧ Ints w' lo hi A n (seqI k n) ∧ Ints w' lo' hi' A' n' (seqI (k + (n : Int)) n') ∧ Ints w' lo2 hi2 A2 n2 (seqI (k + (n : Int) + (n' : Int)) n2)
end Go.Proofs.YtdiebkaedjlckaaDoor
