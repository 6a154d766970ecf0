/- A row of the call's own with spare cells behind it: cut, and appended to. -/
import Derived.Test.YtdiebkaedjlckaaDoorO1
import Derived.ArgAppend
namespace Go.Proofs.YtdiebkaedjlckaaDoor
open Go.ChangeShapes Go.WideShapes Go.ChangeAt Go.RowKit
set_option linter.unusedSimpArgs false
set_option linter.unusedVariables false
set_option maxRecDepth 100000

/-- The slice A, n, c reads as xs, and the cells behind it up to its capacity are there and can be written; all lie in blocks lo..hi. -/
def RowC (w : World) (lo hi : Nat) (A : Option Addr) (n c : Nat) (xs : List Int) : Prop :=
  Ints w lo hi A n xs ∧ n ≤ c ∧ ((A = none ∧ c = 0) ∨ ∃ g o, A = some ⟨g, o, none⟩ ∧ (n < c → lo ≤ g ∧ g < hi) ∧ ∀ j, n ≤ j → j < c → (w.cell? ⟨g, o + j, none⟩).isSome = true ∧ w.frozen? ⟨g, o + j, none⟩ = false)
section
variable {w w' : World} {lo hi lo' hi' n c : Nat} {A : Option Addr} {xs : List Int}
theorem RowC.ints (h : RowC w lo hi A n c xs) : Ints w lo hi A n xs := h.1
theorem RowC.len (h : RowC w lo hi A n c xs) : n = xs.length := h.1.len
theorem RowC.cap (h : RowC w lo hi A n c xs) : n ≤ c := h.2.1
theorem RowC.blocks (h : RowC w lo hi A n c xs) (hk : ∀ b : Nat, lo ≤ b → b < hi → w'.heap[b]? = w.heap[b]?) : RowC w' lo hi A n c xs :=
  ⟨h.1.blocks hk, h.2.1, by
    rcases h.2.2 with h0 | ⟨g, o, e, h1, h2⟩
    · exact .inl h0
    · refine .inr ⟨g, o, e, h1, fun j hj hc => ?_⟩
      obtain ⟨l1, l2⟩ := h1 (by omega)
      have hb := hk g l1 l2
      rw [World.cell?_of_block (w := w) (a := ⟨g, o + j, none⟩) hb, World.frozen?_of_block (w := w) (a := ⟨g, o + j, none⟩) hb]
      exact h2 j hj hc⟩
theorem RowC.more (h : RowC w lo hi A n c xs) (hl : lo' ≤ lo) (hB : hi ≤ hi') : RowC w lo' hi' A n c xs :=
  ⟨h.1.more hl hB, h.2.1, by
    rcases h.2.2 with h0 | ⟨g, o, e, h1, h2⟩
    · exact .inl h0
    · exact .inr ⟨g, o, e, fun hc => by have := h1 hc; omega, h2⟩⟩
theorem RowC.below {B : Nat} (h : RowC w lo hi A n c xs) (hb : Below B w w') (hB : hi ≤ B) : RowC w' lo hi A n c xs := h.blocks fun k _ hk => hb.block k (by omega)
theorem RowC.turn {B b : Nat} (h : RowC w lo hi A n c xs) (hb : Turn B b w w') (hB : hi ≤ B) (hne : b < lo ∨ hi ≤ b) : RowC w' lo hi A n c xs := h.blocks fun k _ hk => hb.2.2.2.2 k (by omega) (by omega)
theorem RowC.drew (h : RowC w lo hi A n c xs) : RowC w.drew lo hi A n c xs := h
theorem RowC.alloc (h : RowC w lo hi A n c xs) (hB : hi ≤ w.heap.size) (o : Obj) : RowC (w.alloc o) lo hi A n c xs := h.blocks fun k _ hk => Below.heap_alloc w o k (by omega)
theorem RowC.set_ (h : RowC w lo hi A n c xs) {b o : Nat} (hp : b < lo ∨ hi ≤ b) (u : Value) : RowC (w.setCell ⟨b, o, none⟩ u) lo hi A n c xs := h.blocks fun k _ hk => Below.heap_setCell w ⟨b, o, none⟩ u k (by show k ≠ b; omega)
theorem RowC.nil (w : World) (lo hi : Nat) : RowC w lo hi none 0 0 [] := ⟨(Ints.nil _ _ _ 0 _).1, Nat.le_refl _, .inl ⟨rfl, rfl⟩⟩
theorem RowC.of_row (h : RowI w lo hi A n c xs) : RowC w lo hi A n c xs := by
  refine ⟨h.ints, h.cap, ?_⟩
  rcases h.2.2 with ⟨h1, _, h3⟩ | ⟨g, cur, e, h1, h2, h3, h4, h5, h6, _⟩
  · exact .inl ⟨h1, h3⟩
  · refine .inr ⟨g, 0, e, fun _ => ⟨h1, h2⟩, fun j _ hj => ?_⟩
    have hlt : j < cur.size := by omega
    refine ⟨?_, ?_⟩
    · simp [World.cell?, h3, hlt]
    · simp [World.frozen?, h3]
/-- What is behind the first m. -/
theorem RowC.drop (h : RowC w lo hi A n c xs) {m : Nat} (hm : m ≤ n) : RowC w lo hi (if c = m then A else A.map fun x => x.add m) (n - m) (c - m) (xs.drop m) := by
  obtain ⟨h1, h2, h3⟩ := h
  by_cases hc : c = m
  · rw [if_pos hc]
    have hn : n - m = 0 := by omega
    have hl := h1.len
    rw [hn, List.drop_of_length_le (by omega), show c - m = 0 by omega]
    refine ⟨(Ints.nil _ _ _ 0 _).1, Nat.le_refl _, ?_⟩
    rcases h3 with ⟨e, _⟩ | ⟨g, o, e, _, _⟩
    · exact .inl ⟨e, rfl⟩
    · exact .inr ⟨g, o, e, fun h => absurd h (by omega), fun j _ hj => absurd hj (by omega)⟩
  · rw [if_neg hc]
    refine ⟨h1.drop hm, by omega, ?_⟩
    rcases h3 with ⟨e, h0⟩ | ⟨g, o, e, h4, h5⟩
    · exact absurd (show c = m by omega) hc
    · subst e
      refine .inr ⟨g, o + m, by simp [add_plain], fun h => h4 (by omega), fun j hj hjc => ?_⟩
      rw [Nat.add_assoc]
      exact h5 (m + j) (by omega) (by omega)
end
/-- One int behind a row: into its spare cell, or in a new row. -/
theorem wpList_append_rowC {w : World} {ops : Array Oper} {rest : List Oper} {o : Oper} {a : Act} {Q : Exit → Act → World → Prop} (hgd : o.guard = none) (s x : Operand)
    (ho : o.op = .call { callee := .builtin .append, args := #[s, x], argTypes := #[22, 22] }) {lo hi n c l2 h2 : Nat} {A : Option Addr} {xs : List Int} {y : Int} (hs : a.eval s = .slice A n c) (hrow : RowC w lo hi A n c xs) (hlo : lo ≤ w.heap.size) (hhi : hi ≤ w.heap.size)
    (b : Nat) (hx : a.eval x = .slice (some ⟨b, 0, none⟩) 1 1) (hI : Ints w l2 h2 (some ⟨b, 0, none⟩) 1 [y]) (hsz : n + 1 ≤ 16777216)
    (h : ∀ A' c' lo2 hi2 w', ((lo2 = lo ∧ hi2 = hi) ∨ (lo2 = w.heap.size ∧ hi2 = w'.heap.size)) → RowC w' lo2 hi2 A' (n + 1) c' (xs ++ [y]) → w.heap.size ≤ w'.heap.size → (∀ k, k < w.heap.size → (k < lo ∨ hi ≤ k) → w'.heap[k]? = w.heap[k]?) → Below lo w w' → wpList Tryd.prog ops Q rest (a.put o.dst (.slice A' (n + 1) c')) w') : wpList Tryd.prog ops Q (o :: rest) a w := by
  obtain ⟨i0, hi0, hz0, hz1, hz2⟩ := info_parts infoInt
  have hy : okInt y := hI.2.2.1 y (by simp)
  have hok : ∀ z ∈ xs ++ [y], okInt z := fun z hz => by
    rcases List.mem_append.1 hz with h | h
    · exact hrow.ints.2.2.1 z h
    · simp at h; subst h; exact hy
  have hnews : ∀ j u, ([Value.int .i64 y])[j]? = some u → w.cell? ((⟨b, 0, none⟩ : Addr).add j) = some u := intsCells hI
  -- a new row
  have grow : ∀ v' w', w'.ownsRow w.heap.size 3 1 v' (n + 1) (xs.map (Value.int .i64) ++ [Value.int .i64 y]) → w.grownBy w' none → wpList Tryd.prog ops Q rest (a.put o.dst v') w' := fun v' w' hown hg => by
    have ho2 : OwnI w' w.heap.size v' (n + 1) (xs ++ [y]) := by unfold OwnI; rw [List.map_append]; exact hown
    obtain ⟨A', c', rfl, hc', _⟩ := ho2.ints hok
    have hr : RowI w' w.heap.size w'.heap.size A' (n + 1) c' (xs ++ [y]) := RowI.of_own ho2 hok fun k hk => ho2.lt k hk
    have hb : ∀ k, k < w.heap.size → w'.heap[k]? = w.heap[k]? := fun k hk => hg.block k hk (by simp)
    exact h A' c' _ _ w' (.inr ⟨rfl, rfl⟩) (RowC.of_row hr) hg.size (fun k hk _ => hb k hk) ⟨hg.os, hg.tape, hg.output, hg.size, fun k hk => hb k (by omega)⟩
  obtain ⟨hints, hcap, hor⟩ := hrow
  rcases hor with ⟨rfl, rfl⟩ | ⟨g, of, rfl, hg1, hg2⟩
  · exact wpList_append_grows w hgd s x 22 ho 3 i0 (.int .i64 0) 1 8 Tryd.underlying22 hi0 hz0 hz1 hz2 rfl (by decide) none n 0 (xs.map (Value.int .i64)) hs (fun _ => ⟨by omega, rfl⟩) (by rw [List.length_map, ← hints.len]; omega) (fun b e => by cases e)
      ⟨b, 0, none⟩ 1 1 [.int .i64 y] hx rfl hnews (by simp [Value.oneCell']) (by omega) (by unfold maxLen; omega) (by omega) grow
  · refine wpList_append_arg w hgd s x 22 ho 3 i0 (.int .i64 0) 1 8 Tryd.underlying22 hi0 hz0 hz1 hz2 rfl (by decide) g of n c (xs.map (Value.int .i64)) hs (by rw [List.length_map, ← hints.len]; omega) (fun j u hu => by have h1 := intsCells hints j u hu; rwa [Addr.add_lit] at h1)
      ⟨b, 0, none⟩ 1 1 [.int .i64 y] hx rfl hnews (by simp [Value.oneCell']) (fun hr j hj => ?_) (by unfold maxLen; omega) (by omega) (fun hr => ?_) (fun _ => grow)
    · simp at hj
      subst hj
      have := hg2 n (Nat.le_refl _) (by omega)
      simpa using this
    · obtain ⟨l1, l2'⟩ := hg1 (by omega)
      have hsp := hg2 n (Nat.le_refl _) (by omega)
      obtain ⟨u0, hu0⟩ := Option.isSome_iff_exists.1 hsp.1
      have e : w.setCells g (of + n * 1) [Value.int .i64 y] = w.setCell ⟨g, of + n, none⟩ (.int .i64 y) := by simp [World.setCells]
      rw [e]
      have hother : ∀ j, j ≠ n → (w.setCell ⟨g, of + n, none⟩ (.int .i64 y)).cell? ⟨g, of + j, none⟩ = w.cell? ⟨g, of + j, none⟩ := fun j hj => World.cell?_setCell_other w ⟨g, of + n, none⟩ ⟨g, of + j, none⟩ _ (by simp; try omega)
      have hfz : ∀ j, (w.setCell ⟨g, of + n, none⟩ (.int .i64 y)).frozen? ⟨g, of + j, none⟩ = w.frozen? ⟨g, of + j, none⟩ := fun j => World.frozen?_setCell _ _ _ _
      refine h (some ⟨g, of, none⟩) c lo hi _ (.inl ⟨rfl, rfl⟩) ⟨⟨by rw [List.length_append, ← hints.len, List.length_singleton], by omega, hok, fun _ => ⟨g, of, rfl, l1, l2', fun j z hz => ?_⟩⟩, by omega, .inr ⟨g, of, rfl, fun _ => ⟨l1, l2'⟩, fun j hj hc => ?_⟩⟩ (by simp only [World.size_setCell]; omega) (fun k hk hne => Below.heap_setCell w ⟨g, of + n, none⟩ _ k (by show k ≠ g; omega)) ?_
      · by_cases hjn : j = n
        · subst hjn
          have hz2 : z = y := by
            rw [List.getElem?_append_right (by rw [← hints.len]; omega), ← hints.len] at hz
            simp at hz
            exact hz.symm
          subst hz2
          exact ⟨World.cell?_setCell_same w ⟨g, of + j, none⟩ _ hu0, by rw [hfz]; exact hsp.2⟩
        · have hjl : j < xs.length := by
            have h1 := (List.getElem?_eq_some_iff.1 hz).1
            rw [List.length_append] at h1
            have h2 := hints.len
            simp at h1
            omega
          rw [List.getElem?_append_left hjl] at hz
          obtain ⟨b1, o1, e1, _, _, hc⟩ := hints.2.2.2 (by have := hints.len; omega)
          injection e1 with e1
          injection e1 with e2 e3 _
          subst e2; subst e3
          rw [hother j hjn, hfz]
          exact hc j z hz
      · rw [hother j (by omega), hfz]
        exact hg2 j (by omega) hc
      · exact below_set (Below.refl lo w) l1 _
end Go.Proofs.YtdiebkaedjlckaaDoor
