/- A row of the call's own that lies in blocks lo..hi: all of its block is known, its spare cells too. -/
import Derived.Test.YtdiebkaedjlckaaDoorApp2
import Derived.Test.YtdiebkaedjlckaaDoorS1b
namespace Go.Proofs.YtdiebkaedjlckaaDoor
open Go.ChangeShapes Go.WideShapes Go.ChangeAt Go.RowKit
set_option linter.unusedSimpArgs false
set_option linter.unusedVariables false

/-- The slice A, n, c begins a block of its own in lo..hi, c cells long, and reads as xs. -/
def RowI (w : World) (lo hi : Nat) (A : Option Addr) (n c : Nat) (xs : List Int) : Prop :=
  n = xs.length ∧ (∀ x ∈ xs, okInt x) ∧ ((A = none ∧ n = 0 ∧ c = 0) ∨
    ∃ g cur, A = some ⟨g, 0, none⟩ ∧ lo ≤ g ∧ g < hi ∧ w.heap[g]? = some (.cells cur 3 (0, 0)) ∧ n ≤ c ∧ c ≤ maxLen ∧ cur.size = c ∧ cur.toList.take n = xs.map (Value.int .i64))
section
variable {w w' : World} {lo hi lo' hi' n c : Nat} {A : Option Addr} {xs : List Int}
theorem RowI.len (h : RowI w lo hi A n c xs) : n = xs.length := h.1
theorem RowI.ok (h : RowI w lo hi A n c xs) : ∀ x ∈ xs, okInt x := h.2.1
theorem RowI.cap (h : RowI w lo hi A n c xs) : n ≤ c := by
  rcases h.2.2 with ⟨_, h1, h2⟩ | ⟨_, _, _, _, _, _, h1, _⟩
  · omega
  · exact h1
theorem RowI.blocks (h : RowI w lo hi A n c xs) (hk : ∀ b : Nat, lo ≤ b → b < hi → w'.heap[b]? = w.heap[b]?) : RowI w' lo hi A n c xs :=
  ⟨h.1, h.2.1, by
    rcases h.2.2 with h0 | ⟨g, cur, e, h1, h2, h3, h4⟩
    · exact .inl h0
    · exact .inr ⟨g, cur, e, h1, h2, (hk g h1 h2).trans h3, h4⟩⟩
theorem RowI.more (h : RowI w lo hi A n c xs) (hl : lo' ≤ lo) (hB : hi ≤ hi') : RowI w lo' hi' A n c xs :=
  ⟨h.1, h.2.1, by
    rcases h.2.2 with h0 | ⟨g, cur, e, h1, h2, h3, h4⟩
    · exact .inl h0
    · exact .inr ⟨g, cur, e, by omega, by omega, h3, h4⟩⟩
theorem RowI.own (h : RowI w lo hi A n c xs) : OwnI w lo (.slice A n c) n xs := by
  refine ⟨by simp [h.1], ?_⟩
  rcases h.2.2 with ⟨rfl, rfl, rfl⟩ | ⟨g, cur, rfl, h1, h2, h3, h4, h5, h6, h7⟩
  · exact .inl ⟨rfl, rfl⟩
  · exact .inr ⟨g, c, cur, rfl, h1, h3, h4, h5, by omega, by rw [Nat.mul_one]; exact h7⟩
theorem RowI.lt (h : RowI w lo hi A n c xs) : ∀ k, (Value.slice A n c).ownBlock = some k → lo ≤ k ∧ k < hi := by
  intro k hk
  rcases h.2.2 with ⟨rfl, rfl, rfl⟩ | ⟨g, cur, rfl, h1, h2, _⟩
  · cases hk
  · injection hk with hk
    have hk2 : g = k := hk
    subst hk2; exact ⟨h1, h2⟩
theorem RowI.of_own {base : Nat} (h : OwnI w base (.slice A n c) n xs) (hok : ∀ x ∈ xs, okInt x) (hl : ∀ k, (Value.slice A n c).ownBlock = some k → lo ≤ k ∧ k < hi) : RowI w lo hi A n c xs := by
  refine ⟨h.len, hok, ?_⟩
  rcases h.2 with ⟨e, rfl⟩ | ⟨g, cap, cur, e, hg, hh, hnc, hm, hs, ht⟩
  · injection e with e1 _ e3
    exact .inl ⟨e1, rfl, e3⟩
  · injection e with e1 _ e3
    subst e1 e3
    obtain ⟨h1, h2⟩ := hl g rfl
    exact .inr ⟨g, cur, rfl, h1, h2, hh, hnc, hm, by omega, by rw [Nat.mul_one] at ht; exact ht⟩
theorem RowI.ints (h : RowI w lo hi A n c xs) : Ints w lo hi A n xs := by
  obtain ⟨A1, c1, e, hc, hI⟩ := h.own.ints h.ok
  injection e with e1 _ e3
  subst e1 e3
  refine ⟨hI.1, hI.2.1, hI.2.2.1, fun hn => ?_⟩
  obtain ⟨b, o, e, h1, h2, h3⟩ := hI.2.2.2 hn
  subst e
  have := h.lt b rfl
  exact ⟨b, o, rfl, this.1, this.2, h3⟩
theorem RowI.below {B : Nat} (h : RowI w lo hi A n c xs) (hb : Below B w w') (hB : hi ≤ B) : RowI w' lo hi A n c xs := h.blocks fun k _ hk => hb.block k (by omega)
theorem RowI.turn {B b : Nat} (h : RowI w lo hi A n c xs) (hb : Turn B b w w') (hB : hi ≤ B) (hne : b < lo ∨ hi ≤ b) : RowI w' lo hi A n c xs := h.blocks fun k _ hk => hb.2.2.2.2 k (by omega) (by omega)
theorem RowI.drew (h : RowI w lo hi A n c xs) : RowI w.drew lo hi A n c xs := h
theorem RowI.alloc (h : RowI w lo hi A n c xs) (hB : hi ≤ w.heap.size) (o : Obj) : RowI (w.alloc o) lo hi A n c xs := h.blocks fun k _ hk => Below.heap_alloc w o k (by omega)
theorem RowI.set_ (h : RowI w lo hi A n c xs) {b o : Nat} (hp : b < lo ∨ hi ≤ b) (u : Value) : RowI (w.setCell ⟨b, o, none⟩ u) lo hi A n c xs := h.blocks fun k _ hk => Below.heap_setCell w ⟨b, o, none⟩ u k (by show k ≠ b; omega)
theorem RowI.grown {v : Value} (h : RowI w lo hi A n c xs) (hg : w.grownBy w' v.ownBlock) (hc : Clear v lo hi) (hB : hi ≤ w.heap.size) : RowI w' lo hi A n c xs :=
  h.blocks fun k h1 h2 => hg.block k (by omega) (by
    intro e
    rcases hc k e.symm with h | h <;> omega)
theorem RowI.nil (w : World) (lo hi : Nat) : RowI w lo hi none 0 0 [] := ⟨rfl, by simp, .inl ⟨rfl, rfl, rfl⟩⟩
theorem RowI.made (w : World) {lo : Nat} (h : lo ≤ w.heap.size) : RowI (w.alloc (.cells #[] 3)) lo (w.heap.size + 1) (some ⟨w.heap.size, 0, none⟩) 0 0 [] :=
  RowI.of_own (OwnI.made w h) (by simp) fun k hk => by
    injection hk with hk
    have hk2 : w.heap.size = k := hk
    omega
end
/-- A row in new memory. -/
def RowNew (xs : List Int) (w : World) (e : Ending) (w' : World) : Prop := ∃ A n c, e = .returned (.slice A n c) ∧ n ≤ c ∧ Below w.heap.size w w' ∧ RowI w' w.heap.size w'.heap.size A n c xs
theorem copyInts_row {A : Option Addr} {n c : Nat} {xs : List Int} {w : World} {L B : Nat} (h : Ints w L B A n xs) (hB : B ≤ w.heap.size) (hn : n ≤ 1048576) :
    Calls Tryd.prog 88 #[.slice A n c] w (RowNew xs w) :=
  (copyInts_own h hB hn).mono fun e w' hh => by
    obtain ⟨v, he, hb, ho⟩ := hh
    obtain ⟨A1, c1, rfl, hc, hi⟩ := ho.ints h.ok
    exact ⟨A1, _, c1, he, hc, hb, RowI.of_own ho h.ok fun k hk => ho.lt k hk⟩
end Go.Proofs.YtdiebkaedjlckaaDoor
