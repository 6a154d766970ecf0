/- append of ints onto a row of the call's own, whatever the source. -/
import Derived.Test.YtdiebkaedjlckaaDoorL3
import Derived.OwnWalk
import Derived.Maps.AppendAt
namespace Go.Proofs.YtdiebkaedjlckaaDoor
section
open Go.ChangeShapes Go.WideShapes Go.ChangeAt Go.RowKit
set_option linter.unusedSimpArgs false
set_option linter.unusedVariables false

/-- The slice value v, n ints long, is the call's own from block base on, and reads as xs. -/
def OwnI (w : World) (base : Nat) (v : Value) (n : Nat) (xs : List Int) : Prop := w.ownsRow base 3 1 v n (xs.map (Value.int .i64))
theorem OwnI.len {w : World} {base n : Nat} {v : Value} {xs : List Int} (h : OwnI w base v n xs) : n = xs.length := by
  have := h.1
  simp at this
  omega
theorem OwnI.ints {w : World} {base n : Nat} {v : Value} {xs : List Int} (h : OwnI w base v n xs) (hok : ∀ x ∈ xs, okInt x) :
    ∃ A c, v = .slice A n c ∧ n ≤ c ∧ Ints w base w.heap.size A n xs := by
  have hl := h.len
  rcases h.2 with ⟨rfl, h0⟩ | ⟨g, cap, cur, rfl, hg, hh, hnc, hm, hs, ht⟩
  · subst h0
    obtain rfl : xs = [] := List.eq_nil_of_length_eq_zero hl.symm
    exact ⟨none, 0, rfl, Nat.le_refl _, (Ints.nil _ _ _ 0 _).1⟩
  · unfold maxLen at hm
    have hlt : g < w.heap.size := (Array.getElem?_eq_some_iff.1 hh).1
    refine ⟨_, _, rfl, hnc, hl, by omega, hok, fun hn => ⟨g, 0, rfl, hg, hlt, fun j x hx => ?_⟩⟩
    have hj : j < n := by rw [hl]; exact (List.getElem?_eq_some_iff.1 hx).1
    have hc : cur[j]? = some (.int .i64 x) := by
      have e : (cur.toList.take (n * 1))[j]? = some (.int .i64 x) := by rw [ht]; simp [hx]
      rw [List.getElem?_take] at e
      split at e
      · simpa using e
      · cases e
    rw [Nat.zero_add]
    exact ⟨by simp [World.cell?, hh, hc], by simp [World.frozen?, hh]⟩
theorem OwnI.lt {w : World} {base n : Nat} {v : Value} {xs : List Int} (h : OwnI w base v n xs) : ∀ k, v.ownBlock = some k → base ≤ k ∧ k < w.heap.size := World.ownsRow.lt h
/-- An empty row in a new block. -/
theorem OwnI.made (w : World) {base : Nat} (hb : base ≤ w.heap.size) : OwnI (w.alloc (.cells #[] 3)) base (.slice (some ⟨w.heap.size, 0, none⟩) 0 0) 0 [] :=
  World.ownsRow_made w #[] 0 hb (by unfold maxLen; omega) rfl
theorem OwnI.nil_ (w : World) (base : Nat) : OwnI w base (.slice none 0 0) 0 [] := World.ownsRow_nil w base _ _
theorem OwnI.below {w w' : World} {base n B : Nat} {v : Value} {xs : List Int} (h : OwnI w base v n xs) (hb : Below B w w') (hB : w.heap.size ≤ B) : OwnI w' base v n xs :=
  World.ownsRow.kept (row := none) h ⟨hb.os, hb.tape, hb.output, hb.size, fun k hk _ => hb.block k (by omega)⟩ (by cases v.ownBlock <;> simp)
theorem OwnI.alloc {w : World} {base n : Nat} {v : Value} {xs : List Int} (h : OwnI w base v n xs) (o : Obj) : OwnI (w.alloc o) base v n xs := World.ownsRow.alloc h o
theorem OwnI.drewN {w : World} {base n : Nat} {v : Value} {xs : List Int} (h : OwnI w base v n xs) (m : Nat) : OwnI (w.drewN m) base v n xs := h
theorem below_grown {w w' : World} {base n : Nat} {v : Value} {xs : List Int} (h : OwnI w base v n xs) (hg : w.grownBy w' v.ownBlock) (hb : base ≤ w.heap.size) : Below base w w' :=
  (Below.refl base w).grown hg hb fun k hk => (h.lt k hk).1

theorem intsCells {w : World} {lo hi n : Nat} {b o : Nat} {xs : List Int} (h : Ints w lo hi (some ⟨b, o, none⟩) n xs) : ∀ j u, (xs.map (Value.int .i64))[j]? = some u → w.cell? ((⟨b, o, none⟩ : Addr).add j) = some u := by
  intro j u hu
  rw [List.getElem?_map] at hu
  obtain ⟨x, hx, rfl⟩ := Option.map_eq_some_iff.1 hu
  have hn : 0 < n := by have := h.1; have := (List.getElem?_eq_some_iff.1 hx).1; omega
  obtain ⟨b', o', e, _, _, hc⟩ := h.2.2.2 hn
  injection e with e
  injection e with e1 e2 _
  subst e1; subst e2
  rw [add_plain]
  exact (hc j x hx).1

theorem run_append_ints {w : World} {base n m c lo hi : Nat} {ty : TypeId} {v : Value} {xs ys : List Int} {A : Option Addr} (hown : OwnI w base v n xs) (hI : Ints w lo hi A m ys) (hsz : n + m ≤ 16777216) (hbase : base ≤ w.heap.size) :
    ∃ v' w', (Builtin.append_ #[22, 22] ty #[v, .slice A m c]).run Tryd.prog w = .ok v' w' ∧ OwnI w' base v' (n + m) (xs ++ ys) ∧ w.grownBy w' v.ownBlock := by
  obtain ⟨i0, hi, hz0, hz1, hz2⟩ := info_parts infoInt
  have h1 : ∀ u ∈ ys.map (Value.int .i64), u.oneCell' = true := fun u hu => by
    obtain ⟨x, _, rfl⟩ := List.mem_map.1 hu
    rfl
  have hlen : (ys.map (Value.int .i64)).length = m * 1 := by simp [← hI.1]
  by_cases hm : m = 0
  · subst hm
    obtain rfl : ys = [] := List.eq_nil_of_length_eq_zero hI.1.symm
    cases A with
    | none =>
      refine ⟨v, w, ?_, by simpa using hown, World.grownBy.refl w _⟩
      rcases hown.2 with ⟨rfl, rfl⟩ | ⟨g, cap, cur, rfl, _, _, hnc, _⟩
      · simp [Builtin.append_, run_underlying Tryd.underlying22, sizeOf, typeInfo, hi, Builtin.lenOf, Builtin.firstCells]
      · simp [Builtin.append_, run_underlying Tryd.underlying22, sizeOf, typeInfo, hi, Builtin.lenOf, Builtin.firstCells, hnc, storeCells]
    | some ad =>
      obtain ⟨v', w', hr, h2, h3, _⟩ := run_append_own (P := Tryd.prog) w base 22 ty 3 i0 (.int .i64 0) 1 8 Tryd.underlying22 hi hz0 hz1 hz2 rfl (by decide) v n _ hown ad 0 c [] rfl (by simp) (by simp) (by unfold maxLen; omega) (by omega) hbase
      exact ⟨v', w', hr, by unfold OwnI; rw [List.append_nil] at h2 ⊢; exact h2, h3⟩
  · obtain ⟨b, o, rfl, _⟩ := hI.2.2.2 (by omega)
    obtain ⟨v', w', hr, h2, h3, _⟩ := run_append_own (P := Tryd.prog) w base 22 ty 3 i0 (.int .i64 0) 1 8 Tryd.underlying22 hi hz0 hz1 hz2 rfl (by decide) v n _ hown ⟨b, o, none⟩ m c _ hlen (intsCells hI) h1 (by unfold maxLen; omega) (by omega) hbase
    exact ⟨v', w', hr, by unfold OwnI; rw [List.map_append]; exact h2, h3⟩

theorem wpList_append_ints {w : World} {ops : Array Oper} {rest : List Oper} {o : Oper} {a : Act} {Q : Exit → Act → World → Prop} (hgd : o.guard = none) (s x : Operand)
    (ho : o.op = .call { callee := .builtin .append, args := #[s, x], argTypes := #[22, 22] }) (base : Nat) (v : Value) (n : Nat) (xs : List Int) (hs : a.eval s = v) (hown : OwnI w base v n xs)
    (A : Option Addr) (m c : Nat) (ys : List Int) (hx : a.eval x = .slice A m c) {lo hi : Nat} (hI : Ints w lo hi A m ys) (hsz : n + m ≤ 16777216) (hbase : base ≤ w.heap.size)
    (h : ∀ v' w', OwnI w' base v' (n + m) (xs ++ ys) → w.grownBy w' v.ownBlock → wpList Tryd.prog ops Q rest (a.put o.dst v') w') : wpList Tryd.prog ops Q (o :: rest) a w := by
  refine wpList_plain hgd fun K hK => ?_
  obtain ⟨v', w', hr, h2, h3⟩ := run_append_ints (ty := o.type) (c := c) hown hI hsz hbase
  unfold Oper.wp
  simp [execOp, ho, resolve, invoke, builtin, hs, hx, hr, Result.andThen]
  exact hK _ _ (h v' w' h2 h3)
end
section
open Go.ChangeShapes Go.WideShapes Go.ChangeAt Go.RowKit
set_option linter.unusedSimpArgs false
set_option linter.unusedVariables false

theorem run_append_ints_at {w : World} {base n m c lo hi : Nat} {ty : TypeId} {v : Value} {xs ys : List Int} {A : Option Addr} (hown : OwnI w base v n xs) (hI : Ints w lo hi A m ys) (hsz : n + m ≤ 16777216) (hbase : base ≤ w.heap.size) :
    ∃ v' w', (Builtin.append_ #[22, 22] ty #[v, .slice A m c]).run Tryd.prog w = .ok v' w' ∧ OwnI w' base v' (n + m) (xs ++ ys) ∧ w.grownBy w' v.ownBlock ∧ (v'.ownBlock = v.ownBlock ∨ v'.ownBlock = some w.heap.size) := by
  obtain ⟨i0, hi, hz0, hz1, hz2⟩ := info_parts infoInt
  have h1 : ∀ u ∈ ys.map (Value.int .i64), u.oneCell' = true := fun u hu => by
    obtain ⟨x, _, rfl⟩ := List.mem_map.1 hu
    rfl
  have hlen : (ys.map (Value.int .i64)).length = m * 1 := by simp [← hI.1]
  by_cases hm : m = 0
  · subst hm
    obtain rfl : ys = [] := List.eq_nil_of_length_eq_zero hI.1.symm
    cases A with
    | none =>
      refine ⟨v, w, ?_, by simpa using hown, World.grownBy.refl w _, .inl rfl⟩
      rcases hown.2 with ⟨rfl, rfl⟩ | ⟨g, cap, cur, rfl, _, _, hnc, _⟩
      · simp [Builtin.append_, run_underlying Tryd.underlying22, sizeOf, typeInfo, hi, Builtin.lenOf, Builtin.firstCells]
      · simp [Builtin.append_, run_underlying Tryd.underlying22, sizeOf, typeInfo, hi, Builtin.lenOf, Builtin.firstCells, hnc, storeCells]
    | some ad =>
      obtain ⟨v', w', hr, h2, h3, _, h5⟩ := run_append_own_at (P := Tryd.prog) w base 22 ty 3 i0 (.int .i64 0) 1 8 Tryd.underlying22 hi hz0 hz1 hz2 rfl (by decide) v n _ hown ad 0 c [] rfl (by simp) (by simp) (by unfold maxLen; omega) (by omega) hbase
      exact ⟨v', w', hr, by unfold OwnI; rw [List.append_nil] at h2 ⊢; exact h2, h3, h5⟩
  · obtain ⟨b, o, rfl, _⟩ := hI.2.2.2 (by omega)
    obtain ⟨v', w', hr, h2, h3, _, h5⟩ := run_append_own_at (P := Tryd.prog) w base 22 ty 3 i0 (.int .i64 0) 1 8 Tryd.underlying22 hi hz0 hz1 hz2 rfl (by decide) v n _ hown ⟨b, o, none⟩ m c _ hlen (intsCells hI) h1 (by unfold maxLen; omega) (by omega) hbase
    exact ⟨v', w', hr, by unfold OwnI; rw [List.map_append]; exact h2, h3, h5⟩

theorem wpList_append_at {w : World} {ops : Array Oper} {rest : List Oper} {o : Oper} {a : Act} {Q : Exit → Act → World → Prop} (hgd : o.guard = none) (s x : Operand)
    (ho : o.op = .call { callee := .builtin .append, args := #[s, x], argTypes := #[22, 22] }) (base : Nat) (v : Value) (n : Nat) (xs : List Int) (hs : a.eval s = v) (hown : OwnI w base v n xs)
    (A : Option Addr) (m c : Nat) (ys : List Int) (hx : a.eval x = .slice A m c) {lo hi : Nat} (hI : Ints w lo hi A m ys) (hsz : n + m ≤ 16777216) (hbase : base ≤ w.heap.size)
    (h : ∀ v' w', OwnI w' base v' (n + m) (xs ++ ys) → w.grownBy w' v.ownBlock → (v'.ownBlock = v.ownBlock ∨ v'.ownBlock = some w.heap.size) → wpList Tryd.prog ops Q rest (a.put o.dst v') w') : wpList Tryd.prog ops Q (o :: rest) a w := by
  refine wpList_plain hgd fun K hK => ?_
  obtain ⟨v', w', hr, h2, h3, h5⟩ := run_append_ints_at (ty := o.type) (c := c) hown hI hsz hbase
  unfold Oper.wp
  simp [execOp, ho, resolve, invoke, builtin, hs, hx, hr, Result.andThen]
  exact hK _ _ (h v' w' h2 h3 h5)

def lenV : Value → Nat | .slice _ n _ => n | _ => 0
/-- The slice's own block lies outside M..C. -/
def Clear (v : Value) (M C : Nat) : Prop := ∀ k, v.ownBlock = some k → k < M ∨ C ≤ k
theorem Clear.nil (M C : Nat) : Clear (.slice none 0 0) M C := fun k h => by cases h
theorem Clear.later {v v' : Value} {M C s : Nat} (h : Clear v M C) (hC : C ≤ s) (ho : v'.ownBlock = v.ownBlock ∨ v'.ownBlock = some s) : Clear v' M C := fun k hk => by
  rcases ho with e | e
  · exact h k (e ▸ hk)
  · rw [e] at hk; injection hk with hk; exact .inr (by omega)
theorem OwnI.clear {w : World} {base n M C : Nat} {v : Value} {xs : List Int} (h : OwnI w base v n xs) (hM : w.heap.size ≤ M) : Clear v M C := fun k hk => .inl (by have := (h.lt k hk).2; omega)
theorem OwnI.turn {w w' : World} {base n b B : Nat} {v : Value} {xs : List Int} (h : OwnI w base v n xs) (ht : Turn B b w w') (hB : w.heap.size ≤ B) (hb : b < base) : OwnI w' base v n xs :=
  World.ownsRow.kept (row := some b) h ⟨ht.1, ht.2.1, ht.2.2.1, ht.size, fun k hk hne => ht.2.2.2.2 k (by omega) (fun e => hne (by rw [e]))⟩ (by
    cases hv : v.ownBlock with
    | none => exact .inl rfl
    | some k => exact .inr (fun e => by injection e with e; have := (h.lt k hv).1; omega))
theorem OwnI.set_ {w : World} {base n b o : Nat} {v : Value} {xs : List Int} (h : OwnI w base v n xs) (hb : b < base) (u : Value) : OwnI (w.setCell ⟨b, o, none⟩ u) base v n xs :=
  World.ownsRow.kept (row := some b) h ⟨rfl, rfl, rfl, by simp, fun k hk hne => Below.heap_setCell w ⟨b, o, none⟩ u k (fun e => hne (by rw [e]))⟩ (by
    cases hv : v.ownBlock with
    | none => exact .inl rfl
    | some k => exact .inr (fun e => by injection e with e; have := (h.lt k hv).1; omega))
theorem Ints.grown {w w' : World} {lo hi n : Nat} {A : Option Addr} {xs : List Int} {v : Value} (h : Ints w lo hi A n xs) (hg : w.grownBy w' v.ownBlock) (hc : Clear v lo hi) (hB : hi ≤ w.heap.size) : Ints w' lo hi A n xs :=
  h.blocks fun k h1 h2 => hg.block k (by omega) (by
    intro e
    rcases hc k e.symm with h | h <;> omega)
theorem OwnI.apart {w : World} {base n m M C c : Nat} {A A2 : Option Addr} {xs R : List Int} (h : OwnI w base (.slice A n c) n xs) (hc : Clear (.slice A n c) M C) (g : Ints w M C A2 m R) : Apart A n A2 m := by
  intro hn hm x y ex ey
  rcases h.2 with ⟨e, _⟩ | ⟨k, cap, cur, e, _⟩
  · injection e with _ e2; omega
  · injection e with e1
    obtain ⟨b, o, e3, h1, h2, _⟩ := g.2.2.2 hm
    rw [ex] at e1; rw [ey] at e3
    injection e1 with e1; injection e3 with e3
    subst e1; subst e3
    left
    have hh := hc k (by rw [ex]; rfl)
    show k ≠ b
    omega
end
end Go.Proofs.YtdiebkaedjlckaaDoor
