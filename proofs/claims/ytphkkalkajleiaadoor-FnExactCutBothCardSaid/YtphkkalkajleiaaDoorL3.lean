/- A device's copy by the exact laws' own helper. -/
import Derived.Test.YtphkkalkajleiaaDoorL2
namespace Go.Proofs.YtphkkalkajleiaaDoor
open Go.ChangeShapes Go.WideShapes Go.ChangeAt Go.RowKit
set_option linter.unusedSimpArgs false
set_option linter.unusedVariables false

/-- Two slices of some length have no cell in common. -/
def Apart (A : Option Addr) (n : Nat) (A' : Option Addr) (n' : Nat) : Prop := 0 < n → 0 < n' → ∀ a a' : Addr, A = some a → A' = some a' → a.block ≠ a'.block ∨ a.off + n ≤ a'.off ∨ a'.off + n' ≤ a.off
theorem Apart.of_le {w w' : World} {lo hi lo' hi' n n' : Nat} {A A' : Option Addr} {xs xs' : List Int} (h : Ints w lo hi A n xs) (h' : Ints w' lo' hi' A' n' xs') (hle : hi ≤ lo') : Apart A n A' n' := by
  intro hn hn' a a' e e'
  obtain ⟨b, o, e1, h1, h2, _⟩ := h.2.2.2 hn
  obtain ⟨b', o', e1', h1', h2', _⟩ := h'.2.2.2 hn'
  rw [e] at e1; rw [e'] at e1'
  injection e1 with e1; injection e1' with e1'
  subst e1; subst e1'
  left
  show b ≠ b'
  omega
theorem Apart.symm {n n' : Nat} {A A' : Option Addr} (h : Apart A n A' n') : Apart A' n' A n := fun h1 h2 a a' e e' => by
  rcases h h2 h1 a' a e' e with h | h | h
  · exact .inl h.symm
  · exact .inr (.inr h)
  · exact .inr (.inl h)
/-- The two parts of a slice. -/
theorem Apart.parts {w : World} {lo hi n m k : Nat} {A : Option Addr} {xs : List Int} (h : Ints w lo hi A n xs) (hk : m + k ≤ n) : Apart A m (A.map fun x => x.add m) k := fun h1 h2 a a' e e' => by
  obtain ⟨b, o, e1, _⟩ := h.2.2.2 (by omega)
  subst e1
  simp only [Option.map_some, Option.some.injEq, add_plain] at e e'
  subst e; subst e'
  exact .inr (.inl (Nat.le_refl _))
theorem Apart.zero {A A' : Option Addr} {n : Nat} : Apart A n A' 0 := fun _ h => absurd h (by omega)
theorem Apart.part1 {A A' : Option Addr} {n m k : Nat} (h : Apart A n A' m) (hk : k ≤ n) : Apart A k A' m := fun h1 h2 a a' e e' => by
  rcases h (by omega) h2 a a' e e' with h | h | h
  · exact .inl h
  · exact .inr (.inl (by omega))
  · exact .inr (.inr h)
theorem Apart.part2 {w : World} {lo hi n m k j : Nat} {A A' : Option Addr} {xs : List Int} (h : Apart A n A' m) (g : Ints w lo hi A n xs) (hk : k + j ≤ n) : Apart (A.map fun x => x.add k) j A' m := fun h1 h2 a a' e e' => by
  obtain ⟨b, o, e1, _⟩ := g.2.2.2 (by omega)
  subst e1
  simp only [Option.map_some, Option.some.injEq, add_plain] at e
  subst e
  rcases h (by omega) h2 _ a' rfl e' with h | h | h
  · exact .inl h
  · have h' : o + n ≤ a'.off := h
    exact .inr (.inl (by show o + k + j ≤ _; omega))
  · have h' : a'.off + m ≤ o := h
    exact .inr (.inr (by show _ ≤ o + k; omega))
/-- A device in blocks from lo on and below hi, its two slices apart. -/
def DevIn (w : World) (lo hi : Nat) (A : Option Addr) (n : Nat) (A' : Option Addr) (n' : Nat) (D : List Int) (p : Int) (S : List Int) (q : Int) : Prop :=
  Ints w lo hi A n D ∧ Ints w lo hi A' n' S ∧ Apart A n A' n' ∧ okInt p ∧ okInt q
/-- A device in new memory. -/
def DevPost (D : List Int) (p : Int) (S : List Int) (q : Int) (w : World) (e : Ending) (w' : World) : Prop :=
  ∃ A n c A' n' c', e = .returned (.agg #[.slice A n c, .int .i64 p, .slice A' n' c', .int .i64 q]) ∧ (n ≤ c ∧ n' ≤ c') ∧ Below w.heap.size w w' ∧ DevIn w' w.heap.size w'.heap.size A n A' n' D p S q

set_option maxHeartbeats 1000000 in
theorem toDevice_any {A A' : Option Addr} {n c n' c' : Nat} {D S : List Int} {p q : Int} {w : World} {L L' B B' : Nat} (h : Ints w L B A n D) (h' : Ints w L' B' A' n' S) (hB : B ≤ w.heap.size) (hB' : B' ≤ w.heap.size)
    (hn : n ≤ 1048576) (hn' : n' ≤ 1048576) (hp : okInt p) (hq : okInt q) :
    Calls Tryd.prog 52 #[.agg #[.slice A n c, .int .i64 p, .slice A' n' c', .int .i64 q]] w (DevPost D p S q w) := by
  have h1 := fun o1 o2 o3 => ((h.alloc hB o1).alloc (by first | omega | (simp; omega) | (simp; done)) o2).alloc (by first | omega | (simp; omega) | (simp; done)) o3
  have h2 := fun o1 o2 o3 => ((h'.alloc hB' o1).alloc (by first | omega | (simp; omega) | (simp; done)) o2).alloc (by first | omega | (simp; omega) | (simp; done)) o3
  have H1 := Lib.hid h1
  have H2 := Lib.hid h2
  clear h1 h2
  go_enter Tryd.func52, Tryd.ntmps52
  go_wp2_with fail
  refine (toIntS_any (H1.out _ _ _) (by first | omega | (simp; omega) | (simp; done)) hn).mono ?_
  rintro e w1 ⟨rfl, hb1, hs1, hi1⟩
  (try simp only [World.size_alloc, World.size_setCell, World.size_drew] at hb1 hs1 hi1)
  obtain ⟨hc, hf⟩ := bcell hb1
  have HB1 := Lib.hid hb1
  have HI1 := Lib.hid hi1
  have HS1 := Lib.hid hs1
  have hz1 : w.heap.size + 1 + 1 + 1 < w1.heap.size := by omega
  have hz10 : w.heap.size < w1.heap.size := by omega
  have hz11 : w.heap.size + 1 < w1.heap.size := by omega
  have hz12 : w.heap.size + 1 + 1 < w1.heap.size := by omega
  clear hb1 hi1 hs1
  go_wp2_with fail
  refine (toIntS_any ((((H2.out _ _ _).below HB1.out (by first | omega | (simp; omega) | (simp; done))).setCell (.inr (by first | omega | (simp; omega) | (simp; done))) _).setCell (.inr (by first | omega | (simp; omega) | (simp; done))) _) (by first | omega | (simp; omega) | (simp; done)) hn').mono ?_
  rintro e w2 ⟨rfl, hb2, hs2, hi2⟩
  (try simp only [World.size_alloc, World.size_setCell, World.size_drew] at hb2 hs2 hi2)
  obtain ⟨hc2, hf2⟩ := bcell hb2
  have HB2 := Lib.hid hb2
  have HI2 := Lib.hid hi2
  have HS2 := Lib.hid hs2
  have hz2 : w1.heap.size < w2.heap.size := by omega
  clear hb2 hi2 hs2
  go_wp2_with fail
  refine bodyPost_ret (v := .agg #[.slice (some ⟨w.heap.size + 1 + 1 + 1, 0, none⟩) n n, .int .i64 p, .slice (some ⟨w1.heap.size, 0, none⟩) n' n', .int .i64 q]) (by simp [results, Tryd.results52, go_sem, hc2, hc, hz11]) rfl ?_
  have s1 := HS1.out
  have s2 := HS2.out
  refine ⟨_, _, _, _, _, _, rfl, ⟨by omega, by omega⟩, ?_, ?_⟩
  · have e1 : Below w.heap.size w w1 := below_step HB1.out (by go_grown) (by omega)
    have e2 : Below w.heap.size w w2 := below_step HB2.out (by (repeat (with_reducible refine below_set ?_ (by omega) _)); exact e1) (by omega)
    (repeat (with_reducible refine below_set ?_ (by omega) _))
    exact e2
  · simp only [World.size_setCell]
    have i1 : Ints w2 (w.heap.size + 1 + 1 + 1) (w.heap.size + 1 + 1 + 1 + 1) (some ⟨w.heap.size + 1 + 1 + 1, 0, none⟩) n D := by
      refine Ints.below ?_ HB2.out (by omega)
      (repeat (with_reducible refine Ints.set_ ?_ (by omega) _))
      exact HI1.out
    refine ⟨?_, ?_, Apart.of_le i1 HI2.out (by omega), hp, hq⟩
    · refine Ints.more (lo := w.heap.size + 1 + 1 + 1) (hi := w.heap.size + 1 + 1 + 1 + 1) ?_ (by omega) (by omega)
      (repeat (with_reducible refine Ints.set_ ?_ (by omega) _))
      exact i1
    · refine Ints.more (lo := w1.heap.size) (hi := w1.heap.size + 1) ?_ (by omega) (by omega)
      (repeat (with_reducible refine Ints.set_ ?_ (by omega) _))
      exact HI2.out
end Go.Proofs.YtphkkalkajleiaaDoor
