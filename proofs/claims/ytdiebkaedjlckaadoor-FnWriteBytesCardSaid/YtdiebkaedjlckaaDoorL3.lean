/- Contracts of the exact laws' own helpers for ints and devices: sizes, copies, comparisons. -/
import Derived.Test.YtdiebkaedjlckaaDoorS1a
namespace Go.Proofs.YtdiebkaedjlckaaDoor
section
open Go.ChangeShapes Go.WideShapes Go.ChangeAt Go.RowKit
set_option linter.unusedSimpArgs false
set_option linter.unusedVariables false

/-- What a size leaves: -1, or so much less. -/
def SzQ (left total : Int) (w : World) (e : Ending) (w' : World) : Prop := ∃ r : Int, e = .returned (.int .i64 r) ∧ (-1 ≤ r ∧ r ≤ left ∧ (r < 0 ∨ total + r = left)) ∧ w = w'
def SzPost (left total : Int) (w : World) (e : Ending) (w' : World) : Prop := ∃ r : Int, e = .returned (.int .i64 r) ∧ (-1 ≤ r ∧ r ≤ left ∧ (r < 0 ∨ total + r = left)) ∧ Below w.heap.size w w'

set_option maxHeartbeats 400000 in
theorem szIntS_any {A : Option Addr} {n c : Nat} {left : Int} {w : World} (hn : n ≤ 9223372036854775807) (h0 : 0 ≤ left) (h1 : left ≤ 1048576) :
    Calls Tryd.prog 48 #[.slice A n c, .int .i64 left] w (SzQ left n w) := by
  go_enter Tryd.func48, Tryd.ntmps48
  go_wp2
  · go_ret
    exact ⟨-1, rfl, by omega, rfl⟩
  · go_ret
    exact ⟨left - n, rfl, by omega, rfl⟩

set_option maxHeartbeats 400000 in
theorem szDevice_any {A A' : Option Addr} {n c n' c' : Nat} {p q left : Int} {w : World} (hn : n ≤ 9223372036854775807) (hn' : n' ≤ 9223372036854775807) (h0 : 0 ≤ left) (h1 : left ≤ 1048576) :
    Calls Tryd.prog 47 #[.agg #[.slice A n c, .int .i64 p, .slice A' n' c', .int .i64 q], .int .i64 left] w (SzPost left (n + n') w) := by
  go_enter Tryd.func47, Tryd.ntmps47
  go_wp2_with (go_at_call 48; refine (szIntS_any (by omega) (by omega) (by omega)).mono ?_; rintro e w' ⟨r1, rfl, hr1, rfl⟩)
  all_goals
    go_ret
    exact ⟨_, rfl, by omega, by go_grown⟩

theorem infoInt : (Tryd.prog.info? 3).map (fun i => (i.zero, i.size, i.bytes)) = some (some (.int .i64 0), 1, 8) := by kernel_rfl
theorem ofRowIs {w : World} {b t n : Nat} {f g : Nat → Value} (h : w.rowIs b t n f) (e : ∀ i, i < n → f i = g i) : w.rowIs b t n g := h.congr e
/-- A copy of ints in a new block of its own. -/
def CopyPost (w : World) (n : Nat) (xs : List Int) (e : Ending) (w' : World) : Prop :=
  e = .returned (.slice (some ⟨w.heap.size, 0, none⟩) n n) ∧ Below w.heap.size w w' ∧ w'.heap.size = w.heap.size + 1 ∧ Ints w' w.heap.size (w.heap.size + 1) (some ⟨w.heap.size, 0, none⟩) n xs
/-- The k first cells are copied, the others are 0. -/
def halfRow (xs : List Int) (k j : Nat) : Value := .int .i64 (if j < k then xs.getD j 0 else 0)
theorem halfRow_lt {xs : List Int} {k j : Nat} {x : Int} (hj : j < k) (hx : xs[j]? = some x) : halfRow xs k j = .int .i64 x := by
  simp [halfRow, hj, List.getD, hx]
theorem halfRow_succ {xs : List Int} {k : Nat} {x : Int} (hx : xs[k]? = some x) (j : Nat) : (if j = k then Value.int .i64 x else halfRow xs k j) = halfRow xs (k + 1) j := by
  by_cases e : j = k
  · subst e; simp [halfRow, List.getD, hx]
  · rw [if_neg e]
    unfold halfRow
    by_cases h : j < k
    · rw [if_pos h, if_pos (by omega)]
    · rw [if_neg h, if_neg (by omega)]

set_option maxHeartbeats 400000 in
theorem toIntS_any {A : Option Addr} {n c : Nat} {xs : List Int} {w : World} {L B : Nat} (h : Ints w L B A n xs) (hB : B ≤ w.heap.size) (hn : n ≤ 1048576) :
    Calls Tryd.prog 15 #[.slice A n c] w (CopyPost w n xs) := by
  have HL := Lib.hid h.len
  have hmk := run_make_row' (P := Tryd.prog) 22 3 (.int .i64 0) 8 Tryd.underlying22 infoInt rfl .i64 .i64 n (by omega) (by omega)
  go_enter Tryd.func15, Tryd.ntmps15
  go_wp2
  go_loopw [4] (fun i wr => ∃ k : Nat, k ≤ n ∧ i = .int .i64 k ∧ Below w.heap.size w wr ∧ wr.heap.size = w.heap.size + 1 ∧ wr.rowIs w.heap.size 3 n (halfRow xs k)) (fun i _ => n - (intOf i).toNat)
  case atStart => exact ⟨0, Nat.zero_le _, rfl, by go_grown, by simp, (World.rowIs_made w _ n _).congr (fun i _ => by simp [halfRow])⟩
  case round =>
    obtain ⟨k, hk, rfl, hbe, hsz, hrow⟩ := hrel
    have HR := Lib.hid hrow
    have HS := Lib.hid hsz
    have HB := Lib.hid hbe
    clear hrow hsz hbe hmk
    by_cases hlt : k < n
    · obtain ⟨b, o, x, rfl, hbB, hc, hx⟩ := h.at_ hlt
      have hc' : wr.cell? ⟨b, o + k, none⟩ = some (.int .i64 x) := by rw [HB.out.cell (p := ⟨b, o + k, none⟩) (by show b < _; omega)]; exact hc
      have hco : wr.cell? ⟨w.heap.size, k, none⟩ = some (halfRow xs k k) := HR.out.cell hlt
      have hfo : wr.frozen? ⟨w.heap.size, k, none⟩ = false := HR.out.frozen k
      clear hc
      go_wp2
      go_roundw
      case rel => exact ⟨k + 1, by omega, by go_num, HB.out.setCell (Nat.le_refl _) _, by simp; exact HS.out, (HR.out.set k _).congr fun j _ => halfRow_succ hx.out j⟩
      case measure => simp [intOf]; omega
    · go_wp2
      go_ret
      obtain rfl : k = n := by omega
      exact ⟨rfl, HB.out, HS.out, Ints.of_row HR.out HL.out (by omega) h.ok (fun j x hx => halfRow_lt (by have := HL.out; have := (List.getElem?_eq_some_iff.1 hx).1; omega) hx) (Nat.le_refl _) (by omega)⟩
end
section
open Go.ChangeShapes Go.WideShapes Go.ChangeAt Go.RowKit
set_option linter.unusedSimpArgs false
set_option linter.unusedVariables false

theorem eq_of_take_all {xs ys : List Int} (hl : xs.length = ys.length) (h : ∀ (j : Nat) (x y : Int), xs[j]? = some x → ys[j]? = some y → x = y) : xs = ys := by
  apply List.ext_getElem hl
  intro j h1 h2
  exact h j _ _ (List.getElem?_eq_getElem h1) (List.getElem?_eq_getElem h2)
def SameTo (xs ys : List Int) (k : Nat) : Prop := ∀ j x y, j < k → xs[j]? = some x → ys[j]? = some y → x = y
theorem SameTo.succ {xs ys : List Int} {k : Nat} {x : Int} (h : SameTo xs ys k) (hx : xs[k]? = some x) (hy : ys[k]? = some x) : SameTo xs ys (k + 1) := by
  intro j a b hj ha hb
  by_cases e : j = k
  · subst e; rw [hx] at ha; rw [hy] at hb; injection ha with ha; injection hb with hb; omega
  · exact h j a b (by omega) ha hb
def sameB (xs ys : List Int) : Bool := decide (xs = ys)
theorem sameB_iff {xs ys : List Int} : sameB xs ys = true ↔ xs = ys := by simp [sameB]
def BoolQ (b : Bool) (w : World) (e : Ending) (w' : World) : Prop := e = .returned (.bool b) ∧ ∃ m, w' = w.drewN m

set_option maxHeartbeats 400000 in
theorem eqIntS_any {A A' : Option Addr} {n c n' c' : Nat} {xs ys : List Int} {w : World} {L B L' B' : Nat} (h : Ints w L B A n xs) (h' : Ints w L' B' A' n' ys) :
    Calls Tryd.prog 18 #[.slice A n c, .slice A' n' c'] w (BoolQ (sameB xs ys) w) := by
  have HL := Lib.hid h.len
  have HL' := Lib.hid h'.len
  have hm := h.max
  have hm' := h'.max
  by_cases hne : n = n'
  · subst hne
    go_enter Tryd.func18, Tryd.ntmps18
    go_wp2
    go_loopw [5] (fun i wr => ∃ k : Nat, k ≤ n ∧ i = .int .i64 k ∧ (∃ m, wr = w.drewN m) ∧ SameTo xs ys k) (fun i _ => n - (intOf i).toNat)
    case atStart => exact ⟨0, Nat.zero_le _, rfl, ⟨0, rfl⟩, fun j x y hj => absurd hj (by omega)⟩
    case round =>
      obtain ⟨k, hk, rfl, ⟨m, rfl⟩, hst⟩ := hrel
      have HS := Lib.hid hst
      clear hst
      by_cases hlt : k < n
      · obtain ⟨b, o, x, rfl, _, hc, hx⟩ := h.at_ hlt
        obtain ⟨b', o', y, rfl, _, hc', hy⟩ := h'.at_ hlt
        have hi0 : (0 : Int) ≤ (k : Int) := by omega
        have hi1 : (k : Int) < (n : Int) := by omega
        by_cases hxy : x = y
        · subst hxy
          go_wp2
          go_quiet (fail)
          go_wp2
          go_roundw
          case rel => exact ⟨k + 1, by omega, by go_num, ⟨_, rfl⟩, HS.out.succ hx.out hy.out⟩
          case measure => simp [intOf]; omega
        · have hb : (x != y) = true := by rw [bne_iff_ne]; exact hxy
          go_wp2
          go_quiet (fail)
          go_wp2
          go_ret
          have hn : ¬ xs = ys := fun e => by subst e; have h1 := hx.out; have h2 := hy.out; rw [h1] at h2; injection h2 with h2; exact hxy h2
          exact ⟨ret_bool (by simp [sameB, hn]), _, World.drewN_drewN _ _ _⟩
      · go_wp2
        go_ret
        have he : xs = ys := eq_of_take_all (by have := HL.out; have := HL'.out; omega) (fun j x y h1 h2 => HS.out j x y (by have := HL.out; have := (List.getElem?_eq_some_iff.1 h1).1; omega) h1 h2)
        exact ⟨ret_bool (by simp [sameB, he]), _, rfl⟩
  · have h1 : ((n : Int) != (n' : Int)) = true := by rw [bne_iff_ne]; omega
    go_enter Tryd.func18, Tryd.ntmps18
    go_wp2
    go_ret
    have hx : ¬ xs = ys := fun e => hne (by rw [HL.out, HL'.out, e])
    exact ⟨ret_bool (by simp [sameB, hx]), 0, rfl⟩

def BoolB (b : Bool) (w : World) (e : Ending) (w' : World) : Prop := e = .returned (.bool b) ∧ Below w.heap.size w w'
def eqD (D : List Int) (p : Int) (S : List Int) (q : Int) (D' : List Int) (p' : Int) (S' : List Int) (q' : Int) : Bool := sameB D D' && (decide (p = p') && (sameB S S' && decide (q = q')))
theorem eqD_refl (D : List Int) (p : Int) (S : List Int) (q : Int) : eqD D p S q D p S q = true := by simp [eqD, sameB]
theorem eqD_iff {D D' S S' : List Int} {p p' q q' : Int} : eqD D p S q D' p' S' q' = true ↔ D = D' ∧ p = p' ∧ S = S' ∧ q = q' := by simp [eqD, sameB]

set_option maxHeartbeats 400000 in
theorem eqDevice_any {A A' X X' : Option Addr} {n c n' c' k d k' d' : Nat} {D S E T : List Int} {p q x y : Int} {w : World} {L L' B B' M M' C C' : Nat}
    (h : Ints w L B A n D) (h' : Ints w L' B' A' n' S) (g : Ints w M C X k E) (g' : Ints w M' C' X' k' T) (hB : B ≤ w.heap.size) (hB' : B' ≤ w.heap.size) (hC : C ≤ w.heap.size) (hC' : C' ≤ w.heap.size) :
    Calls Tryd.prog 55 #[.agg #[.slice A n c, .int .i64 p, .slice A' n' c', .int .i64 q], .agg #[.slice X k d, .int .i64 x, .slice X' k' d', .int .i64 y]] w (BoolB (eqD D p S q E x T y) w) := by
  have h1 := (h.alloc hB (.cells #[.slice A n c, .int .i64 p, .slice A' n' c', .int .i64 q] 28)).alloc (by simp; omega) (.cells #[.slice X k d, .int .i64 x, .slice X' k' d', .int .i64 y] 28)
  have h2 := (h'.alloc hB' (.cells #[.slice A n c, .int .i64 p, .slice A' n' c', .int .i64 q] 28)).alloc (by simp; omega) (.cells #[.slice X k d, .int .i64 x, .slice X' k' d', .int .i64 y] 28)
  have h3 := (g.alloc hC (.cells #[.slice A n c, .int .i64 p, .slice A' n' c', .int .i64 q] 28)).alloc (by simp; omega) (.cells #[.slice X k d, .int .i64 x, .slice X' k' d', .int .i64 y] 28)
  have h4 := (g'.alloc hC' (.cells #[.slice A n c, .int .i64 p, .slice A' n' c', .int .i64 q] 28)).alloc (by simp; omega) (.cells #[.slice X k d, .int .i64 x, .slice X' k' d', .int .i64 y] 28)
  have H1 := Lib.hid h1
  have H2 := Lib.hid h2
  have H3 := Lib.hid h3
  have H4 := Lib.hid h4
  clear h1 h2 h3 h4 h h' g g'
  go_enter Tryd.func55, Tryd.ntmps55
  go_wp2_with (go_at_call 18; (first | (with_reducible refine (eqIntS_any H1.out H3.out).mono ?_) | (with_reducible refine (eqIntS_any (H2.out.drewN _) (H4.out.drewN _)).mono ?_)); rintro e w' ⟨rfl, m, rfl⟩)
  all_goals
    go_ret
    refine ⟨ret_bool ?_, ?_⟩
    · first | (simp [eqD, *]; done) | (simp [eqD]; simp at *; simp [*]; done)
    · repeat (with_reducible refine below_drewN ?_ _)
      go_grown

theorem eqDevice_same {A A' X X' : Option Addr} {n c n' c' k d k' d' : Nat} {D S : List Int} {p q : Int} {w : World} {L L' B B' M M' C C' : Nat}
    (h : Ints w L B A n D) (h' : Ints w L' B' A' n' S) (g : Ints w M C X k D) (g' : Ints w M' C' X' k' S) (hB : B ≤ w.heap.size) (hB' : B' ≤ w.heap.size) (hC : C ≤ w.heap.size) (hC' : C' ≤ w.heap.size) :
    Calls Tryd.prog 55 #[.agg #[.slice A n c, .int .i64 p, .slice A' n' c', .int .i64 q], .agg #[.slice X k d, .int .i64 p, .slice X' k' d', .int .i64 q]] w (BoolB true w) :=
  (eqDevice_any h h' g g' hB hB' hC hC').mono fun e w' hh => by rw [eqD_refl] at hh; exact hh
end
section
open Go.ChangeShapes Go.WideShapes Go.ChangeAt Go.RowKit
set_option linter.unusedSimpArgs false
set_option linter.unusedVariables false

/-- Two slices of some length have no cell in common. -/
def Apart (A : Option Addr) (n : Nat) (A' : Option Addr) (n' : Nat) : Prop := 0 < n → 0 < n' → ∀ a a' : Addr, A = some a → A' = some a' → a.block ≠ a'.block ∨ a.off + n ≤ a'.off ∨ a'.off + n' ≤ a.off
theorem Apart.of_le {w w' : World} {lo hi lo' hi' n n' : Nat} {A A' : Option Addr} {xs xs' : List Int} (h : Ints w lo hi A n xs) (h' : Ints w' lo' hi' A' n' xs') (hle : hi ≤ lo') : Apart A n A' n' := by
  intro hn hn' a a' e e'
  obtain ⟨b, o, e1, h1, h2, _⟩ := h.2.2.2 hn
  obtain ⟨b', o', e1', h1', h2', _⟩ := h'.2.2.2 hn'
  rw [e] at e1; rw [e'] at e1'
  injection e1 with e1; injection e1' with e1'
  subst e1; subst e1'
  left
  show b ≠ b'
  omega
theorem Apart.symm {n n' : Nat} {A A' : Option Addr} (h : Apart A n A' n') : Apart A' n' A n := fun h1 h2 a a' e e' => by
  rcases h h2 h1 a' a e' e with h | h | h
  · exact .inl h.symm
  · exact .inr (.inr h)
  · exact .inr (.inl h)
/-- The two parts of a slice. -/
theorem Apart.parts {w : World} {lo hi n m k : Nat} {A : Option Addr} {xs : List Int} (h : Ints w lo hi A n xs) (hk : m + k ≤ n) : Apart A m (A.map fun x => x.add m) k := fun h1 h2 a a' e e' => by
  obtain ⟨b, o, e1, _⟩ := h.2.2.2 (by omega)
  subst e1
  simp only [Option.map_some, Option.some.injEq, add_plain] at e e'
  subst e; subst e'
  exact .inr (.inl (Nat.le_refl _))
theorem Apart.zero {A A' : Option Addr} {n : Nat} : Apart A n A' 0 := fun _ h => absurd h (by omega)
theorem Apart.part1 {A A' : Option Addr} {n m k : Nat} (h : Apart A n A' m) (hk : k ≤ n) : Apart A k A' m := fun h1 h2 a a' e e' => by
  rcases h (by omega) h2 a a' e e' with h | h | h
  · exact .inl h
  · exact .inr (.inl (by omega))
  · exact .inr (.inr h)
theorem Apart.part2 {w : World} {lo hi n m k j : Nat} {A A' : Option Addr} {xs : List Int} (h : Apart A n A' m) (g : Ints w lo hi A n xs) (hk : k + j ≤ n) : Apart (A.map fun x => x.add k) j A' m := fun h1 h2 a a' e e' => by
  obtain ⟨b, o, e1, _⟩ := g.2.2.2 (by omega)
  subst e1
  simp only [Option.map_some, Option.some.injEq, add_plain] at e
  subst e
  rcases h (by omega) h2 _ a' rfl e' with h | h | h
  · exact .inl h
  · have h' : o + n ≤ a'.off := h
    exact .inr (.inl (by show o + k + j ≤ _; omega))
  · have h' : a'.off + m ≤ o := h
    exact .inr (.inr (by show _ ≤ o + k; omega))
/-- A device in blocks from lo on and below hi, its two slices apart. -/
def DevIn (w : World) (lo hi : Nat) (A : Option Addr) (n : Nat) (A' : Option Addr) (n' : Nat) (D : List Int) (p : Int) (S : List Int) (q : Int) : Prop :=
  Ints w lo hi A n D ∧ Ints w lo hi A' n' S ∧ Apart A n A' n' ∧ okInt p ∧ okInt q
/-- A device in new memory. -/
def DevPost (D : List Int) (p : Int) (S : List Int) (q : Int) (w : World) (e : Ending) (w' : World) : Prop :=
  ∃ A n c A' n' c', e = .returned (.agg #[.slice A n c, .int .i64 p, .slice A' n' c', .int .i64 q]) ∧ (n ≤ c ∧ n' ≤ c') ∧ Below w.heap.size w w' ∧ DevIn w' w.heap.size w'.heap.size A n A' n' D p S q

set_option maxHeartbeats 1000000 in
theorem toDevice_any {A A' : Option Addr} {n c n' c' : Nat} {D S : List Int} {p q : Int} {w : World} {L L' B B' : Nat} (h : Ints w L B A n D) (h' : Ints w L' B' A' n' S) (hB : B ≤ w.heap.size) (hB' : B' ≤ w.heap.size)
    (hn : n ≤ 1048576) (hn' : n' ≤ 1048576) (hp : okInt p) (hq : okInt q) :
    Calls Tryd.prog 53 #[.agg #[.slice A n c, .int .i64 p, .slice A' n' c', .int .i64 q]] w (DevPost D p S q w) := by
  have h1 := fun o1 o2 o3 => ((h.alloc hB o1).alloc (by first | omega | (simp; omega) | (simp; done)) o2).alloc (by first | omega | (simp; omega) | (simp; done)) o3
  have h2 := fun o1 o2 o3 => ((h'.alloc hB' o1).alloc (by first | omega | (simp; omega) | (simp; done)) o2).alloc (by first | omega | (simp; omega) | (simp; done)) o3
  have H1 := Lib.hid h1
  have H2 := Lib.hid h2
  clear h1 h2
  go_enter Tryd.func53, Tryd.ntmps53
  go_wp2_with fail
  refine (toIntS_any (H1.out _ _ _) (by first | omega | (simp; omega) | (simp; done)) hn).mono ?_
  rintro e w1 ⟨rfl, hb1, hs1, hi1⟩
  (try simp only [World.size_alloc, World.size_setCell, World.size_drew] at hb1 hs1 hi1)
  obtain ⟨hc, hf⟩ := bcell hb1
  have HB1 := Lib.hid hb1
  have HI1 := Lib.hid hi1
  have HS1 := Lib.hid hs1
  have hz1 : w.heap.size + 1 + 1 + 1 < w1.heap.size := by omega
  have hz10 : w.heap.size < w1.heap.size := by omega
  have hz11 : w.heap.size + 1 < w1.heap.size := by omega
  have hz12 : w.heap.size + 1 + 1 < w1.heap.size := by omega
  clear hb1 hi1 hs1
  go_wp2_with fail
  refine (toIntS_any ((((H2.out _ _ _).below HB1.out (by first | omega | (simp; omega) | (simp; done))).setCell (.inr (by first | omega | (simp; omega) | (simp; done))) _).setCell (.inr (by first | omega | (simp; omega) | (simp; done))) _) (by first | omega | (simp; omega) | (simp; done)) hn').mono ?_
  rintro e w2 ⟨rfl, hb2, hs2, hi2⟩
  (try simp only [World.size_alloc, World.size_setCell, World.size_drew] at hb2 hs2 hi2)
  obtain ⟨hc2, hf2⟩ := bcell hb2
  have HB2 := Lib.hid hb2
  have HI2 := Lib.hid hi2
  have HS2 := Lib.hid hs2
  have hz2 : w1.heap.size < w2.heap.size := by omega
  clear hb2 hi2 hs2
  go_wp2_with fail
  refine bodyPost_ret (v := .agg #[.slice (some ⟨w.heap.size + 1 + 1 + 1, 0, none⟩) n n, .int .i64 p, .slice (some ⟨w1.heap.size, 0, none⟩) n' n', .int .i64 q]) (by simp [results, Tryd.results53, go_sem, hc2, hc, hz11]) rfl ?_
  have s1 := HS1.out
  have s2 := HS2.out
  refine ⟨_, _, _, _, _, _, rfl, ⟨by omega, by omega⟩, ?_, ?_⟩
  · have e1 : Below w.heap.size w w1 := below_step HB1.out (by go_grown) (by omega)
    have e2 : Below w.heap.size w w2 := below_step HB2.out (by (repeat (with_reducible refine below_set ?_ (by omega) _)); exact e1) (by omega)
    (repeat (with_reducible refine below_set ?_ (by omega) _))
    exact e2
  · simp only [World.size_setCell]
    have i1 : Ints w2 (w.heap.size + 1 + 1 + 1) (w.heap.size + 1 + 1 + 1 + 1) (some ⟨w.heap.size + 1 + 1 + 1, 0, none⟩) n D := by
      refine Ints.below ?_ HB2.out (by omega)
      (repeat (with_reducible refine Ints.set_ ?_ (by omega) _))
      exact HI1.out
    refine ⟨?_, ?_, Apart.of_le i1 HI2.out (by omega), hp, hq⟩
    · refine Ints.more (lo := w.heap.size + 1 + 1 + 1) (hi := w.heap.size + 1 + 1 + 1 + 1) ?_ (by omega) (by omega)
      (repeat (with_reducible refine Ints.set_ ?_ (by omega) _))
      exact i1
    · refine Ints.more (lo := w1.heap.size) (hi := w1.heap.size + 1) ?_ (by omega) (by omega)
      (repeat (with_reducible refine Ints.set_ ?_ (by omega) _))
      exact HI2.out
end
end Go.Proofs.YtdiebkaedjlckaaDoor
