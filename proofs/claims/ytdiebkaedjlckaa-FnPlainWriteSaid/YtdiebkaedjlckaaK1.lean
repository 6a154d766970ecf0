/- Contracts of the drawing of a law's arguments: devices, and a number beside them. -/
import Derived.Test.YtdiebkaedjlckaaD9
import Derived.Test.YtdiebkaedjlckaaG1
namespace Go.Proofs.Ytdiebkaedjlckaa
open Go.ChangeShapes Go.WideShapes Go.ChangeAt Go.RowKit
set_option linter.unusedSimpArgs false
set_option linter.unusedVariables false

theorem own_ints {w : World} {b n c : Nat} {A : Option Addr} {D : List Int} {lo hi : Int} (h : OwnI w b (.slice A n c) n D) (hD : ∀ x ∈ D, lo ≤ x ∧ x ≤ hi) (h1 : -1000000 ≤ lo) (h2 : hi ≤ 1000000) : n ≤ c ∧ Ints w b w.heap.size A n D := by
  obtain ⟨A1, c1, e, hc, hI⟩ := h.ints (fun x hx => by have := hD x hx; unfold okInt; omega)
  injection e with e1 e2 e3
  subst e1; subst e3
  exact ⟨hc, hI⟩

/-- A device in blocks from lo on, drawn. -/
def DrawX (lo : Nat) (w w' : World) (A : Option Addr) (n c : Nat) (A' : Option Addr) (n' c' : Nat) (D S : List Int) (p q : Int) : Prop :=
  (n ≤ c ∧ n' ≤ c') ∧ Below w.heap.size w w' ∧ Ints w' lo w'.heap.size A n D ∧ Ints w' lo w'.heap.size A' n' S ∧ (n ≤ 61 ∧ n' ≤ 7) ∧ (-1 ≤ p ∧ p ≤ 61) ∧ (-1 ≤ q ∧ q ≤ 1001)
/-- A device in new memory, drawn. -/
abbrev DrawD (w w' : World) (A : Option Addr) (n c : Nat) (A' : Option Addr) (n' c' : Nat) (D S : List Int) (p q : Int) : Prop := DrawX w.heap.size w w' A n c A' n' c' D S p q
def DrawnD (w : World) (e : Ending) (w' : World) : Prop := ∃ A n c A' n' c' D S p q, e = .returned (.agg #[.slice (A) n c, .int .i64 (p), .slice (A') n' c', .int .i64 (q)]) ∧ DrawD w w' A n c A' n' c' D S p q
def DrawnDI (w : World) (e : Ending) (w' : World) : Prop := ∃ A n c A' n' c' D S p q z, e = .returned (.tuple #[.agg #[.slice (A) n c, .int .i64 (p), .slice (A') n' c', .int .i64 (q)], .int .i64 z]) ∧ DrawD w w' A n c A' n' c' D S p q ∧ (-1 ≤ z ∧ z ≤ 61)
theorem DrawX.set_ {lo b o : Nat} {w w' : World} {n c n' c' : Nat} {A A' : Option Addr} {D S : List Int} {p q : Int} (h : DrawX lo w w' A n c A' n' c' D S p q) (hb : w.heap.size ≤ b) (hl : b < lo) (u : Value) : DrawX lo w (w'.setCell ⟨b, o, none⟩ u) A n c A' n' c' D S p q := by
  obtain ⟨h1, h2, h3, h4, h5⟩ := h
  refine ⟨h1, below_set h2 hb u, ?_, ?_, h5⟩
  · rw [World.size_setCell]; exact h3.set_ (Or.inl hl) u
  · rw [World.size_setCell]; exact h4.set_ (Or.inl hl) u
theorem DrawX.down {lo : Nat} {w w' : World} {n c n' c' : Nat} {A A' : Option Addr} {D S : List Int} {p q : Int} (h : DrawX lo w w' A n c A' n' c' D S p q) (hl : w.heap.size ≤ lo) : DrawD w w' A n c A' n' c' D S p q :=
  ⟨h.1, h.2.1, h.2.2.1.more hl (Nat.le_refl _), h.2.2.2.1.more hl (Nat.le_refl _), h.2.2.2.2⟩
/-- What was drawn behind another draw. -/
theorem DrawX.of {lo : Nat} {w w1 w2 w3 : World} {g n c n' c' : Nat} {A A' : Option Addr} {D S : List Int} {p q : Int} (hb : Below w.heap.size w w1) (hg : w.heap.size ≤ g) (hg1 : g < w1.heap.size) (hlo : lo ≤ w1.heap.size)
    (ho : OwnI w2 w1.heap.size (.slice A n c) n D) (ho' : OwnI w2 w1.heap.size (.slice A' n' c') n' S) (ht : Turn w1.heap.size g w1 w2) (ht2 : Turn w2.heap.size g w2 w3)
    (hD : ∀ x ∈ D, -1 ≤ x ∧ x ≤ 256) (hS : ∀ x ∈ S, -2 ≤ x ∧ x ≤ 61) (hn : n ≤ 61 ∧ n' ≤ 7) (hp : -1 ≤ p ∧ p ≤ 61) (hq : -1 ≤ q ∧ q ≤ 1001) : DrawX lo w w3 A n c A' n' c' D S p q := by
  have s1 := ht.size
  have s2 := ht2.size
  obtain ⟨h1, i1⟩ := own_ints (ho.turn ht2 (Nat.le_refl _) hg1) hD (by decide) (by decide)
  obtain ⟨h2, i2⟩ := own_ints (ho'.turn ht2 (Nat.le_refl _) hg1) hS (by decide) (by decide)
  exact ⟨⟨h1, h2⟩, (hb.trans (ht.below (by omega) (by omega))).trans (ht2.below (by omega) (by omega)), i1.more (by omega) (Nat.le_refl _), i2.more (by omega) (Nat.le_refl _), hn, hp, hq⟩
theorem BytesIn.alloc {w : World} {A : Option Addr} {n : Nat} (h : BytesIn w w.heap.size A n) (o : Obj) : BytesIn (w.alloc o) (w.alloc o).heap.size A n := fun hn => by
  obtain ⟨b, f, e, hb, hc⟩ := (h.keep (w' := w.alloc o) fun b hb => Below.heap_alloc w o b hb) hn
  exact ⟨b, f, e, by simp; omega, hc⟩
end Go.Proofs.Ytdiebkaedjlckaa
