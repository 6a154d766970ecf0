/- Contracts of the exact laws' marks: ints are overwritten by numbers in order, and found so again. -/
import Derived.Test.YtdiebkaedjlckaaL3
namespace Go.Proofs.Ytdiebkaedjlckaa
open Go.ChangeShapes Go.WideShapes Go.ChangeAt Go.RowKit
set_option linter.unusedSimpArgs false
set_option linter.unusedVariables false

/-- n numbers from k on. -/
def seqI (k : Int) (n : Nat) : List Int := (List.range n).map fun j : Nat => k + (j : Int)
theorem seqI_len (k : Int) (n : Nat) : (seqI k n).length = n := by simp [seqI]
theorem seqI_at (k : Int) (n j : Nat) (x : Int) (h : (seqI k n)[j]? = some x) : j < n ∧ x = k + j := by
  unfold seqI at h
  rw [List.getElem?_map] at h
  obtain ⟨i, hi, rfl⟩ := Option.map_eq_some_iff.1 h
  obtain ⟨hl, he⟩ := List.getElem?_eq_some_iff.1 hi
  simp at hl he
  subst he
  exact ⟨hl, rfl⟩
/-- The cell b, o is not one of the slice's. -/
def OutOf (A : Option Addr) (n b o : Nat) : Prop := 0 < n → ∀ ad : Addr, A = some ad → ad.block ≠ b ∨ o < ad.off ∨ ad.off + n ≤ o
theorem OutOf.of_apart {A X : Option Addr} {n m b o j : Nat} (h : Apart A n X m) (e : X = some ⟨b, o, none⟩) (hj : j < m) : OutOf A n b (o + j) := fun hn ad ea => by
  rcases h hn (by omega) ad _ ea e with h | h | h
  · exact .inl h
  · have h' : ad.off + n ≤ o := h
    exact .inr (.inr (by omega))
  · have h' : o + m ≤ ad.off := h
    exact .inr (.inl (by omega))
def SameAt (w w' : World) (b o : Nat) : Prop := w'.cell? ⟨b, o, none⟩ = w.cell? ⟨b, o, none⟩ ∧ w'.frozen? ⟨b, o, none⟩ = w.frozen? ⟨b, o, none⟩
theorem SameAt.trans {w w1 w2 : World} {b o : Nat} (h : SameAt w w1 b o) (g : SameAt w1 w2 b o) : SameAt w w2 b o := ⟨g.1.trans h.1, g.2.trans h.2⟩
theorem SameAt.of_block {w w' : World} {b o : Nat} (h : w'.heap[b]? = w.heap[b]?) : SameAt w w' b o := ⟨World.cell?_of_block (w := w) (a := ⟨b, o, none⟩) h, World.frozen?_of_block (w := w) (a := ⟨b, o, none⟩) h⟩
/-- Only the slice's own cells have turned. -/
def MarkW (w w' : World) (A : Option Addr) (n : Nat) : Prop :=
  w'.os = w.os ∧ w'.tape = w.tape ∧ w'.output = w.output ∧ w'.heap.size = w.heap.size ∧ (∀ b, (0 < n → ∀ ad : Addr, A = some ad → ad.block ≠ b) → w'.heap[b]? = w.heap[b]?) ∧ ∀ b o, OutOf A n b o → SameAt w w' b o
theorem MarkW.refl (w : World) (A : Option Addr) (n : Nat) : MarkW w w A n := ⟨rfl, rfl, rfl, rfl, fun _ _ => rfl, fun _ _ _ => ⟨rfl, rfl⟩⟩
theorem MarkW.size {w w' : World} {A : Option Addr} {n : Nat} (h : MarkW w w' A n) : w'.heap.size = w.heap.size := h.2.2.2.1
theorem MarkW.set_ {w w' : World} {b o c n : Nat} (h : MarkW w w' (some ⟨b, o, none⟩) n) (hn : 0 < n) (hc : o ≤ c ∧ c < o + n) (u : Value) : MarkW w (w'.setCell ⟨b, c, none⟩ u) (some ⟨b, o, none⟩) n :=
  ⟨h.1, h.2.1, h.2.2.1, by simp [h.size], fun k hk => (Below.heap_setCell w' ⟨b, c, none⟩ u k (fun e => hk hn _ rfl e.symm)).trans (h.2.2.2.2.1 k hk), fun k d hk => by
    have hs := h.2.2.2.2.2 k d hk
    have hne : ¬ ((⟨k, d, none⟩ : Addr) = ⟨b, c, none⟩) := by
      intro e
      injection e with e1 e2
      rcases hk hn _ rfl with h1 | h1 | h1
      · exact h1 e1.symm
      · have h1' : d < o := h1
        omega
      · have h1' : o + n ≤ d := h1
        omega
    exact ⟨(World.cell?_setCell_other _ _ _ _ (fun e => hne e.symm)).trans hs.1, (World.frozen?_setCell _ _ _ _).trans hs.2⟩⟩
theorem Ints.mark {w w' : World} {A X : Option Addr} {n m lo hi : Nat} {xs : List Int} (h : Ints w lo hi X m xs) (hm : MarkW w w' A n) (ha : Apart A n X m) : Ints w' lo hi X m xs := by
  by_cases h0 : m = 0
  · subst h0
    exact ⟨h.1, h.2.1, h.2.2.1, fun hn => absurd hn (by omega)⟩
  · obtain ⟨b, o, e, h1, h2, hc⟩ := h.2.2.2 (by omega)
    refine ⟨h.1, h.2.1, h.2.2.1, fun _ => ⟨b, o, e, h1, h2, fun j x hx => ?_⟩⟩
    have hs := hm.2.2.2.2.2 b (o + j) (OutOf.of_apart ha e (by have := h.1; have := (List.getElem?_eq_some_iff.1 hx).1; omega))
    exact ⟨hs.1.trans (hc j x hx).1, hs.2.trans (hc j x hx).2⟩
theorem MarkW.far {w w' : World} {A : Option Addr} {n lo hi b : Nat} {xs : List Int} (hm : MarkW w w' A n) (h : Ints w lo hi A n xs) (hb : b < lo ∨ hi ≤ b) : w'.heap[b]? = w.heap[b]? :=
  hm.2.2.2.2.1 b fun hn ad ea e => by
    obtain ⟨b', o, e', h1, h2, _⟩ := h.2.2.2 hn
    rw [ea] at e'
    injection e' with e'
    subst e'
    subst e
    simp at hb
    omega
theorem Box.mark {w w' : World} {A : Option Addr} {n lo hi b : Nat} {xs : List Int} {cs : List Value} (hx : Box w b cs) (hm : MarkW w w' A n) (h : Ints w lo hi A n xs) (hb : b < lo ∨ hi ≤ b) : Box w' b cs :=
  hx.block (hm.far h hb) (by rw [hm.size]; exact Nat.le_refl _)
theorem below_mark {a w w' : World} {A : Option Addr} {n lo hi B : Nat} {xs : List Int} (hx : Below B a w) (hm : MarkW w w' A n) (h : Ints w lo hi A n xs) (hb : B ≤ lo) : Below B a w' :=
  hx.trans ⟨hm.1, hm.2.1, hm.2.2.1, by rw [hm.size]; exact Nat.le_refl _, fun k hk => hm.far h (.inl (by omega))⟩

def MarkPost (A : Option Addr) (n lo hi : Nat) (k : Int) (w : World) (e : Ending) (w' : World) : Prop :=
  e = .returned (.int .i64 (k + (n : Int))) ∧ MarkW w w' A n ∧ Ints w' lo hi A n (seqI k n)

/-- Only the two slices' own cells have turned, of what was there. -/
def MarkD (w w' : World) (A : Option Addr) (n : Nat) (A' : Option Addr) (n' : Nat) : Prop :=
  w'.os = w.os ∧ w'.tape = w.tape ∧ w'.output = w.output ∧ w.heap.size ≤ w'.heap.size ∧ (∀ b, b < w.heap.size → (0 < n → ∀ ad : Addr, A = some ad → ad.block ≠ b) → (0 < n' → ∀ ad : Addr, A' = some ad → ad.block ≠ b) → w'.heap[b]? = w.heap[b]?) ∧
    ∀ b o, b < w.heap.size → OutOf A n b o → OutOf A' n' b o → SameAt w w' b o
theorem MarkD.size {w w' : World} {A A' : Option Addr} {n n' : Nat} (h : MarkD w w' A n A' n') : w.heap.size ≤ w'.heap.size := h.2.2.2.1
theorem Ints.markD {w w' : World} {A A' X : Option Addr} {n n' m lo hi : Nat} {xs : List Int} (h : Ints w lo hi X m xs) (hm : MarkD w w' A n A' n') (hB : hi ≤ w.heap.size) (ha : Apart A n X m) (ha' : Apart A' n' X m) : Ints w' lo hi X m xs := by
  by_cases h0 : m = 0
  · subst h0
    exact ⟨h.1, h.2.1, h.2.2.1, fun hn => absurd hn (by omega)⟩
  · obtain ⟨b, o, e, h1, h2, hc⟩ := h.2.2.2 (by omega)
    refine ⟨h.1, h.2.1, h.2.2.1, fun _ => ⟨b, o, e, h1, h2, fun j x hx => ?_⟩⟩
    have hj : j < m := by have := h.1; have := (List.getElem?_eq_some_iff.1 hx).1; omega
    have hs := hm.2.2.2.2.2 b (o + j) (by omega) (OutOf.of_apart ha e hj) (OutOf.of_apart ha' e hj)
    exact ⟨hs.1.trans (hc j x hx).1, hs.2.trans (hc j x hx).2⟩
theorem not_in {w : World} {lo hi n b : Nat} {A : Option Addr} {xs : List Int} (h : Ints w lo hi A n xs) (hb : b < lo ∨ hi ≤ b) : 0 < n → ∀ ad : Addr, A = some ad → ad.block ≠ b := by
  intro hn ad ea e
  obtain ⟨b', o, e', h1, h2, _⟩ := h.2.2.2 hn
  rw [ea] at e'
  injection e' with e'
  subst e'
  subst e
  simp at hb
  omega
theorem Box.markD {w w' : World} {A A' : Option Addr} {n n' lo hi lo' hi' b : Nat} {xs xs' : List Int} {cs : List Value} (hx : Box w b cs) (hm : MarkD w w' A n A' n') (h : Ints w lo hi A n xs) (h' : Ints w lo' hi' A' n' xs') (hb : b < lo ∨ hi ≤ b) (hb' : b < lo' ∨ hi' ≤ b) : Box w' b cs :=
  hx.block (hm.2.2.2.2.1 b hx.1 (not_in h hb) (not_in h' hb')) hm.size
theorem below_markD {a w w' : World} {A A' : Option Addr} {n n' lo hi lo' hi' B : Nat} {xs xs' : List Int} (hx : Below B a w) (hm : MarkD w w' A n A' n') (h : Ints w lo hi A n xs) (h' : Ints w lo' hi' A' n' xs') (hb : B ≤ lo) (hb' : B ≤ lo') (hB : B ≤ w.heap.size) : Below B a w' :=
  hx.trans ⟨hm.1, hm.2.1, hm.2.2.1, hm.size, fun k hk => hm.2.2.2.2.1 k (by omega) (not_in h (.inl (by omega))) (not_in h' (.inl (by omega)))⟩

def MarkDPost (A : Option Addr) (n lo hi : Nat) (A' : Option Addr) (n' lo' hi' : Nat) (k : Int) (w : World) (e : Ending) (w' : World) : Prop :=
  e = .returned (.int .i64 (k + (n : Int) + (n' : Int))) ∧ MarkD w w' A n A' n' ∧ Ints w' lo hi A n (seqI k n) ∧ Ints w' lo' hi' A' n' (seqI (k + (n : Int)) n')

/-- The same ints are found the same. -/
theorem eqIntS_same {A A' : Option Addr} {n c n' c' : Nat} {xs : List Int} {w : World} {L B L' B' : Nat} (h : Ints w L B A n xs) (h' : Ints w L' B' A' n' xs) :
    Calls Try.prog 68 #[.slice A n c, .slice A' n' c'] w (BoolB true w) :=
  (eqIntS_any h h').mono fun e w' hh => by
    obtain ⟨he, m, rfl⟩ := hh
    rw [sameB_iff.2 rfl] at he
    exact ⟨he, below_drewN (Below.refl _ _) _⟩
theorem toIntS_b {A : Option Addr} {n c : Nat} {xs : List Int} {w : World} {L B : Nat} (h : Ints w L B A n xs) (hB : B ≤ w.heap.size) (hn : n ≤ 1048576) :
    Calls Try.prog 66 #[.slice A n c] w fun e w' => ∃ A1 c1, e = .returned (.slice A1 n c1) ∧ n ≤ c1 ∧ Below w.heap.size w w' ∧ Ints w' w.heap.size w'.heap.size A1 n xs :=
  (toIntS_any h hB hn).mono fun e w' hh => by
    obtain ⟨he, hb, hs, hi⟩ := hh
    exact ⟨_, _, he, Nat.le_refl _, hb, hi.more (Nat.le_refl _) (by omega)⟩
end Go.Proofs.Ytdiebkaedjlckaa
