/- Words for this program's memory, and plain lemmas: a slice of ints that reads as a list; a law's last step. No statement is proved here. -/
import Derived.Test.YtdiebkaedjlckaaDoorRows
import Derived.WalkKit
import Derived.ProofKit
import Derived.OpenShut
import Derived.Handy
import Derived.Handed
import Derived.JoinedOf
import Derived.Lib.Hide
import Derived.Lib.SmallJoins
import Derived.Deep.QuietTactic
import Derived.Deep.OwnRows
import Derived.BigQuiet
import Derived.BigGuardPart
namespace Go.Proofs.YtdiebkaedjlckaaDoor
open Go.ChangeShapes Go.WideShapes Go.ChangeAt Go.RowKit
set_option linter.unusedSimpArgs false
set_option linter.unusedVariables false

/-! Numbers -/
/-- The number n lies from lo to hi. -/
def inB (n lo hi : Int) : Bool := decide (lo ≤ n) && decide (n ≤ hi)
theorem inB_true {n lo hi : Int} (h1 : lo ≤ n) (h2 : n ≤ hi) : inB n lo hi = true := by simp [inB, h1, h2]
theorem inB_iff {n lo hi : Int} : inB n lo hi = true ↔ lo ≤ n ∧ n ≤ hi := by simp [inB]
theorem inB_false_iff {n lo hi : Int} : inB n lo hi = false ↔ ¬ (lo ≤ n ∧ n ≤ hi) := by
  rw [← inB_iff]; cases inB n lo hi <;> simp
/-- All numbers lie from lo to hi. -/
def allB (xs : List Int) (lo hi : Int) : Bool := xs.all fun n => inB n lo hi
theorem ret_bool {a b : Bool} (h : a = b) : Ending.returned (.bool a) = .returned (.bool b) := by rw [h]
theorem ret_int {k : IntKind} {a b : Int} (h : a = b) : Ending.returned (.int k a) = .returned (.int k b) := by rw [h]
theorem take_snoc {α : Type} {xs : List α} {k : Nat} {x : α} (h : xs[k]? = some x) : xs.take (k + 1) = xs.take k ++ [x] := by
  rw [List.take_add_one, h]; rfl
theorem take_same {α : Type} {l : List α} {s t : Nat} (h : s = t ∨ (l.length ≤ s ∧ l.length ≤ t)) : l.take s = l.take t := by
  rcases h with rfl | ⟨h1, h2⟩
  · rfl
  · rw [List.take_of_length_le h1, List.take_of_length_le h2]
theorem allB_snoc {xs : List Int} {k : Nat} {x lo hi : Int} (h : xs[k]? = some x) : allB (xs.take (k + 1)) lo hi = (allB (xs.take k) lo hi && inB x lo hi) := by
  rw [take_snoc h]; simp [allB, List.all_append]
theorem allB_no {xs : List Int} {k : Nat} {x lo hi : Int} (h : xs[k]? = some x) (hx : inB x lo hi = false) : allB xs lo hi = false := by
  have hm : x ∈ xs := List.mem_of_getElem? h
  cases hb : allB xs lo hi with
  | false => rfl
  | true => rw [allB, List.all_eq_true] at hb; rw [hb x hm] at hx; cases hx

/-! Memory -/
def okInt (x : Int) : Prop := -9223372036854775808 ≤ x ∧ x ≤ 9223372036854775807
/-- The slice 'A, n, _' reads in w as the ints xs; its cells lie in blocks from lo on and below hi, and can be written. -/
def Ints (w : World) (lo hi : Nat) (A : Option Addr) (n : Nat) (xs : List Int) : Prop :=
  n = xs.length ∧ n ≤ 9223372036854775807 ∧ (∀ x ∈ xs, okInt x) ∧
  (0 < n → ∃ b o, A = some ⟨b, o, none⟩ ∧ lo ≤ b ∧ b < hi ∧ ∀ j x, xs[j]? = some x → w.cell? ⟨b, o + j, none⟩ = some (.int .i64 x) ∧ w.frozen? ⟨b, o + j, none⟩ = false)

section
variable {w w' : World} {lo hi lo' hi' n : Nat} {A : Option Addr} {xs : List Int}
theorem Ints.len (h : Ints w lo hi A n xs) : n = xs.length := h.1
theorem Ints.max (h : Ints w lo hi A n xs) : n ≤ 9223372036854775807 := h.2.1
theorem Ints.ok (h : Ints w lo hi A n xs) : ∀ x ∈ xs, okInt x := h.2.2.1
theorem Ints.at_ (h : Ints w lo hi A n xs) {k : Nat} (hk : k < n) :
    ∃ b o x, A = some ⟨b, o, none⟩ ∧ b < hi ∧ w.cell? ⟨b, o + k, none⟩ = some (.int .i64 x) ∧ Hid (xs[k]? = some x) := by
  obtain ⟨b, o, e, _, hb, hc⟩ := h.2.2.2 (by omega)
  have hl : k < xs.length := by have := h.1; omega
  exact ⟨b, o, xs[k], e, hb, (hc k _ (List.getElem?_eq_getElem hl)).1, List.getElem?_eq_getElem hl⟩
theorem Ints.keep (h : Ints w lo hi A n xs) (hk : ∀ p : Addr, lo ≤ p.block → p.block < hi → w'.cell? p = w.cell? p ∧ w'.frozen? p = w.frozen? p) : Ints w' lo hi A n xs :=
  ⟨h.1, h.2.1, h.2.2.1, fun hn => by
    obtain ⟨b, o, e, hl, hb, hc⟩ := h.2.2.2 hn
    exact ⟨b, o, e, hl, hb, fun j x hx => ⟨(hk ⟨b, o + j, none⟩ hl hb).1.trans (hc j x hx).1, (hk ⟨b, o + j, none⟩ hl hb).2.trans (hc j x hx).2⟩⟩⟩
theorem Ints.more (h : Ints w lo hi A n xs) (hl' : lo' ≤ lo) (hB : hi ≤ hi') : Ints w lo' hi' A n xs :=
  ⟨h.1, h.2.1, h.2.2.1, fun hn => by
    obtain ⟨b, o, e, hl, hb, hc⟩ := h.2.2.2 hn
    exact ⟨b, o, e, by omega, by omega, hc⟩⟩
theorem Ints.blocks (h : Ints w lo hi A n xs) (hk : ∀ b : Nat, lo ≤ b → b < hi → w'.heap[b]? = w.heap[b]?) : Ints w' lo hi A n xs :=
  h.keep fun p h1 h2 => ⟨World.cell?_of_block (w := w) (hk p.block h1 h2), World.frozen?_of_block (w := w) (hk p.block h1 h2)⟩
theorem Ints.below {B : Nat} (h : Ints w lo hi A n xs) (hb : Below B w w') (hB : hi ≤ B) : Ints w' lo hi A n xs := h.blocks fun k _ hk => hb.block k (by omega)
theorem Ints.drew (h : Ints w lo hi A n xs) : Ints w.drew lo hi A n xs := h
theorem Ints.alloc (h : Ints w lo hi A n xs) (hB : hi ≤ w.heap.size) (o : Obj) : Ints (w.alloc o) lo hi A n xs := h.blocks fun k _ hk => Below.heap_alloc w o k (by omega)
theorem Ints.setCell (h : Ints w lo hi A n xs) {p : Addr} (hp : p.block < lo ∨ hi ≤ p.block) (u : Value) : Ints (w.setCell p u) lo hi A n xs := h.blocks fun k _ hk => Below.heap_setCell w p u k (by omega)
theorem Ints.set_ (h : Ints w lo hi A n xs) {b o : Nat} (hp : b < lo ∨ hi ≤ b) (u : Value) : Ints (w.setCell ⟨b, o, none⟩ u) lo hi A n xs := h.setCell (p := ⟨b, o, none⟩) hp u
theorem Ints.drop (h : Ints w lo hi A n xs) {a : Nat} (ha : a ≤ n) : Ints w lo hi (A.map fun x => x.add a) (n - a) (xs.drop a) := by
  refine ⟨by rw [List.length_drop, ← h.1], by have := h.2.1; omega, fun x hx => h.2.2.1 x (List.mem_of_mem_drop hx), fun hn => ?_⟩
  obtain ⟨b, o, e, h1, h2, hc⟩ := h.2.2.2 (by omega)
  subst e
  refine ⟨b, o + a, by simp [add_plain], h1, h2, fun j x hx => ?_⟩
  rw [List.getElem?_drop] at hx
  rw [Nat.add_assoc]
  exact hc (a + j) x hx
theorem Ints.take (h : Ints w lo hi A n xs) {m : Nat} (hm : m ≤ n) : Ints w lo hi A m (xs.take m) := by
  refine ⟨by rw [List.length_take, ← h.1]; omega, by have := h.2.1; omega, fun x hx => h.2.2.1 x (List.mem_of_mem_take hx), fun hn => ?_⟩
  obtain ⟨b, o, e, h1, h2, hc⟩ := h.2.2.2 (by omega)
  refine ⟨b, o, e, h1, h2, fun j x hx => ?_⟩
  rw [List.getElem?_take] at hx
  split at hx
  · exact hc j x hx
  · cases hx
theorem Ints.nil (w : World) (lo hi c : Nat) (A : Option Addr) : Ints w lo hi A 0 [] ∧ c = c := ⟨⟨rfl, by omega, by simp, fun h => absurd h (by omega)⟩, rfl⟩
theorem Ints.of_row {b : Nat} {f : Nat → Value} (hr : w.rowIs b 3 n f) (hn : n = xs.length) (hm : n ≤ 9223372036854775807) (hok : ∀ x ∈ xs, okInt x) (hf : ∀ j x, xs[j]? = some x → f j = .int .i64 x) (h1 : lo ≤ b) (h2 : b < hi) :
    Ints w lo hi (some ⟨b, 0, none⟩) n xs :=
  ⟨hn, hm, hok, fun _ => ⟨b, 0, rfl, h1, h2, fun j x hx => by
    have hj : j < n := by
      have := (List.getElem?_eq_some_iff.1 hx).1
      omega
    rw [Nat.zero_add]
    exact ⟨by rw [hr.cell hj, hf j x hx], hr.frozen j⟩⟩⟩
end

theorem bcell {W w1 : World} {B : Nat} (hb : Below B W w1) : (∀ b o, b < B → w1.cell? ⟨b, o, none⟩ = W.cell? ⟨b, o, none⟩) ∧ (∀ b o, b < B → w1.frozen? ⟨b, o, none⟩ = W.frozen? ⟨b, o, none⟩) :=
  ⟨fun b o h => hb.cell (p := ⟨b, o, none⟩) h, fun b o h => hb.frozen (p := ⟨b, o, none⟩) h⟩

theorem below_set {B : Nat} {a w : World} (h : Below B a w) {b o : Nat} (hp : B ≤ b) (u : Value) : Below B a (w.setCell ⟨b, o, none⟩ u) := h.setCell (p := ⟨b, o, none⟩) hp u
theorem below_step {B C : Nat} {a w w' : World} (h : Below C w w') (g : Below B a w) (hC : B ≤ C) : Below B a w' := g.trans (h.mono hC)
theorem size_drewN (w : World) (n : Nat) : (w.drewN n).heap.size = w.heap.size := rfl
theorem below_drewN {B : Nat} {a w : World} (h : Below B a w) (n : Nat) : Below B a (w.drewN n) := ⟨h.os, h.tape, h.output, h.size, h.block⟩
theorem Ints.drewN {w : World} {lo hi n : Nat} {A : Option Addr} {xs : List Int} (h : Ints w lo hi A n xs) (m : Nat) : Ints (w.drewN m) lo hi A n xs := h

/-- Block b holds these cells, and they can be written. -/
def Box (w : World) (b : Nat) (cs : List Value) : Prop := b < w.heap.size ∧ ∀ o v, cs[o]? = some v → w.cell? ⟨b, o, none⟩ = some v ∧ w.frozen? ⟨b, o, none⟩ = false
theorem Box.new (w : World) (t : TypeId) (cs : List Value) : Box (w.alloc (.cells cs.toArray t)) w.heap.size cs :=
  ⟨by simp, fun o v hv => ⟨by rw [World.cell?_alloc_new]; simpa using hv, by unfold World.frozen?; rw [Go.Deep.blk_alloc_new]; simp⟩⟩
theorem Box.lt {w : World} {b : Nat} {cs : List Value} (h : Box w b cs) : b < w.heap.size := h.1
theorem Box.block {w w' : World} {b : Nat} {cs : List Value} (h : Box w b cs) (hk : w'.heap[b]? = w.heap[b]?) (hs : w.heap.size ≤ w'.heap.size) : Box w' b cs :=
  ⟨Nat.lt_of_lt_of_le h.1 hs, fun o v hv => ⟨(World.cell?_of_block (w := w) (a := ⟨b, o, none⟩) hk).trans (h.2 o v hv).1, (World.frozen?_of_block (w := w) (a := ⟨b, o, none⟩) hk).trans (h.2 o v hv).2⟩⟩
theorem Box.below {w w' : World} {b B : Nat} {cs : List Value} (h : Box w b cs) (hb : Below B w w') (hB : b < B) : Box w' b cs := h.block (hb.block b hB) hb.size
theorem Box.alloc {w : World} {b : Nat} {cs : List Value} (h : Box w b cs) (o : Obj) : Box (w.alloc o) b cs := h.block (Below.heap_alloc w o b h.1) (by simp)
theorem Box.drew {w : World} {b : Nat} {cs : List Value} (h : Box w b cs) : Box w.drew b cs := h
theorem Box.drewN {w : World} {b : Nat} {cs : List Value} (h : Box w b cs) (n : Nat) : Box (w.drewN n) b cs := h
theorem Box.set_ {w : World} {b b' o : Nat} {cs : List Value} (h : Box w b cs) (hne : b ≠ b') (u : Value) : Box (w.setCell ⟨b', o, none⟩ u) b cs := h.block (Below.heap_setCell w ⟨b', o, none⟩ u b hne) (by simp)

theorem Box.put {w : World} {b i : Nat} {cs : List Value} (h : Box w b cs) (hi : i < cs.length) (u : Value) : Box (w.setCell ⟨b, i, none⟩ u) b (cs.set i u) := by
  refine ⟨by simpa using h.1, fun o v hv => ⟨?_, (World.frozen?_setCell _ _ _ _).trans ?_⟩⟩
  · by_cases e : i = o
    · subst e
      rw [List.getElem?_set_self hi] at hv
      rw [← hv]
      exact World.cell?_setCell_same w ⟨b, i, none⟩ u (h.2 i _ (List.getElem?_eq_getElem hi)).1
    · rw [List.getElem?_set_ne e] at hv
      rw [World.cell?_setCell_other w ⟨b, i, none⟩ ⟨b, o, none⟩ u (by simp [e])]
      exact (h.2 o v hv).1
  · by_cases e : i = o
    · subst e
      exact (h.2 i _ (List.getElem?_eq_getElem hi)).2
    · rw [List.getElem?_set_ne e] at hv
      exact (h.2 o v hv).2

/-- Below block B only block b has turned. -/
def Turn (B b : Nat) (w w' : World) : Prop := w'.os = w.os ∧ w'.tape = w.tape ∧ w'.output = w.output ∧ w.heap.size ≤ w'.heap.size ∧ ∀ k, k < B → k ≠ b → w'.heap[k]? = w.heap[k]?
theorem Turn.size {B b : Nat} {w w' : World} (h : Turn B b w w') : w.heap.size ≤ w'.heap.size := h.2.2.2.1
theorem Turn.refl (B b : Nat) (w : World) : Turn B b w w := ⟨rfl, rfl, rfl, Nat.le_refl _, fun _ _ _ => rfl⟩
theorem Turn.of_below {B C b : Nat} {w w' : World} (h : Below C w w') (hB : B ≤ C) : Turn B b w w' := ⟨h.os, h.tape, h.output, h.size, fun k hk _ => h.block k (by omega)⟩
theorem Turn.trans {B b : Nat} {w w1 w2 : World} (h : Turn B b w w1) (g : Turn B b w1 w2) : Turn B b w w2 :=
  ⟨g.1.trans h.1, g.2.1.trans h.2.1, g.2.2.1.trans h.2.2.1, Nat.le_trans h.size g.size, fun k hk hne => (g.2.2.2.2 k hk hne).trans (h.2.2.2.2 k hk hne)⟩
theorem Turn.step {B C b : Nat} {w w1 w2 : World} (h : Turn B b w w1) (g : Below C w1 w2) (hB : B ≤ C) : Turn B b w w2 := h.trans (.of_below g hB)
theorem Turn.mono {B B' b : Nat} {w w' : World} (h : Turn B b w w') (hB : B' ≤ B) : Turn B' b w w' := ⟨h.1, h.2.1, h.2.2.1, h.size, fun k hk hne => h.2.2.2.2 k (by omega) hne⟩
theorem Turn.put {B b o : Nat} {w w1 : World} (h : Turn B b w w1) (u : Value) : Turn B b w (w1.setCell ⟨b, o, none⟩ u) :=
  h.trans ⟨rfl, rfl, rfl, by simp, fun k _ hne => Below.heap_setCell w1 ⟨b, o, none⟩ u k hne⟩
theorem Turn.drewN {B b : Nat} {w w1 : World} (h : Turn B b w w1) (n : Nat) : Turn B b w (w1.drewN n) := h
theorem Turn.drew {B b : Nat} {w w1 : World} (h : Turn B b w w1) : Turn B b w w1.drew := h
/-- What has turned lies in the call's own memory. -/
theorem Turn.below {B C b : Nat} {w w' : World} (h : Turn C b w w') (hb : B ≤ b) (hC : B ≤ C) : Below B w w' := ⟨h.1, h.2.1, h.2.2.1, h.size, fun k hk => h.2.2.2.2 k (by omega) (by omega)⟩
theorem Ints.turn {B b lo hi n : Nat} {w w' : World} {A : Option Addr} {xs : List Int} (h : Ints w lo hi A n xs) (hb : Turn B b w w') (hB : hi ≤ B) (hne : b < lo ∨ hi ≤ b) : Ints w' lo hi A n xs := h.blocks fun k _ hk => hb.2.2.2.2 k (by omega) (by omega)
theorem Box.turn {B b b' : Nat} {w w' : World} {cs : List Value} (h : Box w b' cs) (hb : Turn B b w w') (hB : b' < B) (hne : b' ≠ b) : Box w' b' cs := h.block (hb.2.2.2.2 b' hB hne) hb.size
theorem below_drewN' {B : Nat} {a w : World} (h : Below B a w) (n : Nat) : Below B a (w.drewN n) := ⟨h.os, h.tape, h.output, h.size, h.block⟩

/-! A law's arguments, and its last step -/
section
variable {H : Type} {enc : TypeId × Value → H} {P : Program}

theorem trod_at {W W' : World} {base : Nat} (hl : laidOutB P = true) (hbe : Below W.heap.size W W') : ∀ (ts : List TypeId) (vs : List Value) (ds : List (DataW H)) (ps : List MemPlace),
    (∀ t ∈ ts, P.readableRec t = true ∧ t < P.types.size) → (∀ p ∈ ps, p.block < W.heap.size) →
    DataW.TrodAll enc P W base (fun _ => true) true ts vs ds ps → DataW.TrodAll enc P W' base (fun b => decide (b < W.heap.size)) true ts vs ds ps
  | [], [], [], _, _, _, h => h
  | t :: ts, v :: vs, d :: ds, ps, hT, hlt, h => by
    obtain ⟨p, q, h1, h2, rfl⟩ := h
    refine ⟨p, q, ?_, trod_at hl hbe ts vs ds q (fun t ht => hT t (List.mem_cons_of_mem _ ht)) (fun x hx => hlt x (List.mem_append_right _ hx)) h2, rfl⟩
    exact WideElems.Trod_stays hl (hT t List.mem_cons_self).1 (hT t List.mem_cons_self).2 h1 (fun x hx => hbe.same (hlt x (List.mem_append_left _ hx))) (fun x hx => by simpa using hlt x (List.mem_append_left _ hx))
  | [], _ :: _, _, _, _, _, h => by cases h
  | [], [], _ :: _, _, _, _, h => by cases h
  | _ :: _, [], _, _, _, _, h => by cases h
  | _ :: _, _ :: _, [], _, _, _, h => by cases h

/-- A law's call gave true and left all that was there as it was. -/
theorem law_post {f : Func} {s : ChangeSpec} {W W' : World} {args : Array Value} {ds gs : List (DataW H)} {before : List MemPlace} {tb : TypeId}
    (hl : laidOutB P = true) (hT : ∀ t ∈ f.params.toList, P.readableRec t = true ∧ t < P.types.size)
    (hW : DataW.Whole enc P f.params.toList s.vars false W args.toList ds gs before) (hv : s.vars = [])
    (hs : s.fn H (ds ++ gs) = { results := [.lit (.bool true)], args := ds }) (hr : f.resultTypes = #[tb]) (htb : P.underlying tb = some .bool)
    (hb : Below W.heap.size W W') : s.post enc P f false true false false W args (.bool true) W' := by
  have hlt : ∀ p ∈ before, p.block < W.heap.size := fun p hp => hW.lt p hp
  have hW' := hW
  obtain ⟨p, q, hA, hV, rfl, _, _⟩ := hW'
  refine ⟨ds, gs, p ++ q, [], p, [], hW, ?_, ?_, ?_, hb.frame _, fun h => by cases h⟩
  · rw [hs, hr]
    exact trodAll_mk1 (shut_bool htb true)
  · rw [hs]
    exact trod_at hl hb _ _ _ _ hT (fun x hx => hlt x (List.mem_append_left _ hx)) hA
  · rw [hs, hv]
    rfl

theorem arg_int {W : World} {fuel : Nat} {t : TypeId} {v : Value} {x : DataW H × List MemPlace} (ht : P.underlying t = some (.int .i64)) (h : DataW.trod enc P W 0 (fun _ => true) true fuel t [v] = some x) :
    ∃ n, v = .int .i64 n ∧ okInt n := by
  obtain ⟨n, hcs, _, hw⟩ := DataW.trod_int ht h
  obtain rfl : v = .int .i64 n := by injection hcs
  exact ⟨n, rfl, bounds_i64 hw⟩

theorem arg_ints {W : World} {fuel : Nat} {t e : TypeId} {v : Value} {x : DataW H × List MemPlace} (ht : P.underlying t = some (.slice e)) (he : P.underlying e = some (.int .i64)) (hc : P.cellsOf e = 1)
    (h : DataW.trod enc P W 0 (fun _ => true) true fuel t [v] = some x) (hlt : ∀ p ∈ x.2, p.block < W.heap.size) (hfz : ∀ b off, MemPlace.cell b off ∈ x.2 → W.frozen? ⟨b, off, none⟩ = false) :
    ∃ A n c xs, v = .slice A n c ∧ n ≤ c ∧ c ≤ 9223372036854775807 ∧ Ints W 0 W.heap.size A n xs := by
  rcases open_ints ht he hc h with ⟨hcs, _⟩ | ⟨a, len, cap, zs, hcs, _, hl, hm, hz, hx, hcell, hwz⟩
  · obtain rfl : v = .slice none 0 0 := by injection hcs
    exact ⟨none, 0, 0, [], rfl, by omega, by omega, (Ints.nil _ _ _ 0 _).1⟩
  · obtain rfl : v = .slice (some a) len cap := by injection hcs
    simp only [if_true] at hz
    unfold maxLen at hm
    refine ⟨some a, len, cap, zs.take len, rfl, hl, hm, by simp; omega, by omega, fun n hn => bounds_i64 (hwz n (List.mem_of_mem_take hn)), fun hn => ?_⟩
    obtain ⟨b, off, rfl, hcc⟩ := ints_at hcell (by omega)
    subst hx
    have hin : ∀ i, i < zs.length → MemPlace.cell b (off + i) ∈ MemPlace.row ⟨b, off, none⟩ zs.length := fun i hi => MemPlace.mem_row.2 ⟨i, hi, by simp⟩
    refine ⟨b, off, rfl, Nat.zero_le _, hlt _ (hin 0 (by omega)), fun j x hx => ?_⟩
    have hj : j < len ∧ zs[j]? = some x := by
      rw [List.getElem?_take] at hx
      split at hx
      · exact ⟨‹_›, hx⟩
      · cases hx
    refine ⟨?_, hfz _ _ (hin j (by omega))⟩
    rw [hcc j (by omega)]
    simp [List.getD, hj.2]
end
end Go.Proofs.YtdiebkaedjlckaaDoor
