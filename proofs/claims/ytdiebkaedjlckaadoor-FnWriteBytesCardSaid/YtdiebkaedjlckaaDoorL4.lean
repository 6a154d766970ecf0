/- Contracts of the exact laws' marks: ints are overwritten by numbers in order, and found so again. -/
import Derived.Test.YtdiebkaedjlckaaDoorL3
namespace Go.Proofs.YtdiebkaedjlckaaDoor
open Go.ChangeShapes Go.WideShapes Go.ChangeAt Go.RowKit
set_option linter.unusedSimpArgs false
set_option linter.unusedVariables false

/-- n numbers from k on. -/
def seqI (k : Int) (n : Nat) : List Int := (List.range n).map fun j : Nat => k + (j : Int)
theorem seqI_len (k : Int) (n : Nat) : (seqI k n).length = n := by simp [seqI]
theorem seqI_at (k : Int) (n j : Nat) (x : Int) (h : (seqI k n)[j]? = some x) : j < n ∧ x = k + j := by
  unfold seqI at h
  rw [List.getElem?_map] at h
  obtain ⟨i, hi, rfl⟩ := Option.map_eq_some_iff.1 h
  obtain ⟨hl, he⟩ := List.getElem?_eq_some_iff.1 hi
  simp at hl he
  subst he
  exact ⟨hl, rfl⟩
/-- The cell b, o is not one of the slice's. -/
def OutOf (A : Option Addr) (n b o : Nat) : Prop := 0 < n → ∀ ad : Addr, A = some ad → ad.block ≠ b ∨ o < ad.off ∨ ad.off + n ≤ o
theorem OutOf.of_apart {A X : Option Addr} {n m b o j : Nat} (h : Apart A n X m) (e : X = some ⟨b, o, none⟩) (hj : j < m) : OutOf A n b (o + j) := fun hn ad ea => by
  rcases h hn (by omega) ad _ ea e with h | h | h
  · exact .inl h
  · have h' : ad.off + n ≤ o := h
    exact .inr (.inr (by omega))
  · have h' : o + m ≤ ad.off := h
    exact .inr (.inl (by omega))
def SameAt (w w' : World) (b o : Nat) : Prop := w'.cell? ⟨b, o, none⟩ = w.cell? ⟨b, o, none⟩ ∧ w'.frozen? ⟨b, o, none⟩ = w.frozen? ⟨b, o, none⟩
theorem SameAt.trans {w w1 w2 : World} {b o : Nat} (h : SameAt w w1 b o) (g : SameAt w1 w2 b o) : SameAt w w2 b o := ⟨g.1.trans h.1, g.2.trans h.2⟩
theorem SameAt.of_block {w w' : World} {b o : Nat} (h : w'.heap[b]? = w.heap[b]?) : SameAt w w' b o := ⟨World.cell?_of_block (w := w) (a := ⟨b, o, none⟩) h, World.frozen?_of_block (w := w) (a := ⟨b, o, none⟩) h⟩
/-- Only the slice's own cells have turned. -/
def MarkW (w w' : World) (A : Option Addr) (n : Nat) : Prop :=
  w'.os = w.os ∧ w'.tape = w.tape ∧ w'.output = w.output ∧ w'.heap.size = w.heap.size ∧ (∀ b, (0 < n → ∀ ad : Addr, A = some ad → ad.block ≠ b) → w'.heap[b]? = w.heap[b]?) ∧ ∀ b o, OutOf A n b o → SameAt w w' b o
theorem MarkW.refl (w : World) (A : Option Addr) (n : Nat) : MarkW w w A n := ⟨rfl, rfl, rfl, rfl, fun _ _ => rfl, fun _ _ _ => ⟨rfl, rfl⟩⟩
theorem MarkW.size {w w' : World} {A : Option Addr} {n : Nat} (h : MarkW w w' A n) : w'.heap.size = w.heap.size := h.2.2.2.1
theorem MarkW.set_ {w w' : World} {b o c n : Nat} (h : MarkW w w' (some ⟨b, o, none⟩) n) (hn : 0 < n) (hc : o ≤ c ∧ c < o + n) (u : Value) : MarkW w (w'.setCell ⟨b, c, none⟩ u) (some ⟨b, o, none⟩) n :=
  ⟨h.1, h.2.1, h.2.2.1, by simp [h.size], fun k hk => (Below.heap_setCell w' ⟨b, c, none⟩ u k (fun e => hk hn _ rfl e.symm)).trans (h.2.2.2.2.1 k hk), fun k d hk => by
    have hs := h.2.2.2.2.2 k d hk
    have hne : ¬ ((⟨k, d, none⟩ : Addr) = ⟨b, c, none⟩) := by
      intro e
      injection e with e1 e2
      rcases hk hn _ rfl with h1 | h1 | h1
      · exact h1 e1.symm
      · have h1' : d < o := h1
        omega
      · have h1' : o + n ≤ d := h1
        omega
    exact ⟨(World.cell?_setCell_other _ _ _ _ (fun e => hne e.symm)).trans hs.1, (World.frozen?_setCell _ _ _ _).trans hs.2⟩⟩
theorem Ints.mark {w w' : World} {A X : Option Addr} {n m lo hi : Nat} {xs : List Int} (h : Ints w lo hi X m xs) (hm : MarkW w w' A n) (ha : Apart A n X m) : Ints w' lo hi X m xs := by
  by_cases h0 : m = 0
  · subst h0
    exact ⟨h.1, h.2.1, h.2.2.1, fun hn => absurd hn (by omega)⟩
  · obtain ⟨b, o, e, h1, h2, hc⟩ := h.2.2.2 (by omega)
    refine ⟨h.1, h.2.1, h.2.2.1, fun _ => ⟨b, o, e, h1, h2, fun j x hx => ?_⟩⟩
    have hs := hm.2.2.2.2.2 b (o + j) (OutOf.of_apart ha e (by have := h.1; have := (List.getElem?_eq_some_iff.1 hx).1; omega))
    exact ⟨hs.1.trans (hc j x hx).1, hs.2.trans (hc j x hx).2⟩
theorem MarkW.far {w w' : World} {A : Option Addr} {n lo hi b : Nat} {xs : List Int} (hm : MarkW w w' A n) (h : Ints w lo hi A n xs) (hb : b < lo ∨ hi ≤ b) : w'.heap[b]? = w.heap[b]? :=
  hm.2.2.2.2.1 b fun hn ad ea e => by
    obtain ⟨b', o, e', h1, h2, _⟩ := h.2.2.2 hn
    rw [ea] at e'
    injection e' with e'
    subst e'
    subst e
    simp at hb
    omega
theorem Box.mark {w w' : World} {A : Option Addr} {n lo hi b : Nat} {xs : List Int} {cs : List Value} (hx : Box w b cs) (hm : MarkW w w' A n) (h : Ints w lo hi A n xs) (hb : b < lo ∨ hi ≤ b) : Box w' b cs :=
  hx.block (hm.far h hb) (by rw [hm.size]; exact Nat.le_refl _)
theorem below_mark {a w w' : World} {A : Option Addr} {n lo hi B : Nat} {xs : List Int} (hx : Below B a w) (hm : MarkW w w' A n) (h : Ints w lo hi A n xs) (hb : B ≤ lo) : Below B a w' :=
  hx.trans ⟨hm.1, hm.2.1, hm.2.2.1, by rw [hm.size]; exact Nat.le_refl _, fun k hk => hm.far h (.inl (by omega))⟩

def MarkPost (A : Option Addr) (n lo hi : Nat) (k : Int) (w : World) (e : Ending) (w' : World) : Prop :=
  e = .returned (.int .i64 (k + (n : Int))) ∧ MarkW w w' A n ∧ Ints w' lo hi A n (seqI k n)

set_option maxHeartbeats 1000000 in
theorem markIntS_any {A : Option Addr} {n c : Nat} {k : Int} {xs : List Int} {w : World} {lo hi : Nat} (h : Ints w lo hi A n xs) (hk : 0 ≤ k) (hk2 : k ≤ 1000000000000) (hn : n ≤ 1048576) :
    Calls Tryd.prog 20 #[.slice A n c, .int .i64 k] w (MarkPost A n lo hi k w) := by
  by_cases h0 : n = 0
  · subst h0
    go_enter Tryd.func20, Tryd.ntmps20
    go_wp2
    go_loop [1, 5] (fun t i => t = .int .i64 k ∧ i = .int .i64 0) (fun _ _ => 0)
    case atStart => exact ⟨rfl, rfl⟩
    case round =>
      obtain ⟨rfl, rfl⟩ := hrel
      go_wp2
      go_ret
      exact ⟨ret_int (by omega), MarkW.refl _ _ _, ⟨(seqI_len _ _).symm, by omega, by simp [seqI], fun hn => absurd hn (by omega)⟩⟩
  · obtain ⟨b, o, rfl, hlo, hhi, hcs⟩ := h.2.2.2 (by omega)
    have HL := Lib.hid h.len
    have HC := Lib.hid hcs
    clear hcs h
    go_enter Tryd.func20, Tryd.ntmps20
    go_wp2
    go_loopw [1, 5] (fun t i wr => ∃ j : Nat, j ≤ n ∧ t = .int .i64 (k + j) ∧ i = .int .i64 j ∧ MarkW w wr (some ⟨b, o, none⟩) n ∧
        Hid (∀ l : Nat, l < n → ∃ x, wr.cell? ⟨b, o + l, none⟩ = some (.int .i64 x) ∧ wr.frozen? ⟨b, o + l, none⟩ = false ∧ (l < j → x = k + l))) (fun _ i _ => n - (intOf i).toNat)
    case atStart =>
      refine ⟨0, Nat.zero_le _, by simp, rfl, MarkW.refl _ _ _, fun l hl => ?_⟩
      have hx : xs[l]? = some (xs[l]'(by have := HL.out; omega)) := List.getElem?_eq_getElem _
      exact ⟨_, (HC.out l _ hx).1, (HC.out l _ hx).2, fun h => absurd h (by omega)⟩
    case round =>
      obtain ⟨j, hj, rfl, rfl, hmw, hcell⟩ := hrel
      have HM := Lib.hid hmw
      clear hmw
      by_cases hlt : j < n
      · obtain ⟨x, hc, hf, _⟩ := hcell.out j hlt
        go_wp2
        go_roundw
        case rel =>
          refine ⟨j + 1, by omega, by go_num, by go_num, HM.out.set_ (by omega) (by omega) _, fun l hl => ?_⟩
          by_cases e : l = j
          · subst e
            exact ⟨k + l, World.cell?_setCell_same _ _ _ hc, (World.frozen?_setCell _ _ _ _).trans hf, fun _ => rfl⟩
          · obtain ⟨y, h1, h2, h3⟩ := hcell.out l hl
            exact ⟨y, (World.cell?_setCell_other _ _ _ _ (fun h => by injection h with _ h2; omega)).trans h1, (World.frozen?_setCell _ _ _ _).trans h2, fun h => h3 (by omega)⟩
        case measure => simp [intOf]; omega
      · go_wp2
        go_ret
        obtain rfl : j = n := by omega
        refine ⟨rfl, HM.out, (seqI_len _ _).symm, by omega, fun x hx => ?_, fun _ => ⟨b, o, rfl, hlo, hhi, fun l x hx => ?_⟩⟩
        · obtain ⟨i, hi⟩ := List.mem_iff_getElem?.1 hx
          obtain ⟨h1, rfl⟩ := seqI_at _ _ _ _ hi
          unfold okInt
          omega
        · obtain ⟨h1, rfl⟩ := seqI_at _ _ _ _ hx
          obtain ⟨y, h2, h3, h4⟩ := hcell.out l h1
          rw [h4 h1] at h2
          exact ⟨h2, h3⟩

set_option maxHeartbeats 1000000 in
theorem heldIntS_any {A : Option Addr} {n c : Nat} {k : Int} {w : World} {lo hi : Nat} (h : Ints w lo hi A n (seqI k n)) (hk : 0 ≤ k) (hk2 : k ≤ 1000000000000) (hn : n ≤ 1048576) :
    Calls Tryd.prog 31 #[.slice A n c, .int .i64 k] w fun e w' => e = .returned (.int .i64 (k + (n : Int))) ∧ w = w' := by
  go_enter Tryd.func31, Tryd.ntmps31
  go_wp2
  go_loop [1, 5] (fun t i => ∃ j : Nat, j ≤ n ∧ t = .int .i64 (k + j) ∧ i = .int .i64 j) (fun _ i => n - (intOf i).toNat)
  case atStart => exact ⟨0, Nat.zero_le _, by simp, rfl⟩
  case round =>
    obtain ⟨j, hj, rfl, rfl⟩ := hrel
    by_cases hlt : j < n
    · obtain ⟨b, o, x, rfl, _, hc, hx⟩ := h.at_ hlt
      obtain ⟨_, rfl⟩ := seqI_at _ _ _ _ hx.out
      go_wp2
      go_round
      case rel => exact ⟨j + 1, by omega, by go_num, by go_num⟩
      case measure => simp [intOf]; omega
    · go_wp2
      go_ret
      obtain rfl : j = n := by omega
      exact ⟨rfl, rfl⟩

/-- Only the two slices' own cells have turned, of what was there. -/
def MarkD (w w' : World) (A : Option Addr) (n : Nat) (A' : Option Addr) (n' : Nat) : Prop :=
  w'.os = w.os ∧ w'.tape = w.tape ∧ w'.output = w.output ∧ w.heap.size ≤ w'.heap.size ∧ (∀ b, b < w.heap.size → (0 < n → ∀ ad : Addr, A = some ad → ad.block ≠ b) → (0 < n' → ∀ ad : Addr, A' = some ad → ad.block ≠ b) → w'.heap[b]? = w.heap[b]?) ∧
    ∀ b o, b < w.heap.size → OutOf A n b o → OutOf A' n' b o → SameAt w w' b o
theorem MarkD.size {w w' : World} {A A' : Option Addr} {n n' : Nat} (h : MarkD w w' A n A' n') : w.heap.size ≤ w'.heap.size := h.2.2.2.1
theorem Ints.markD {w w' : World} {A A' X : Option Addr} {n n' m lo hi : Nat} {xs : List Int} (h : Ints w lo hi X m xs) (hm : MarkD w w' A n A' n') (hB : hi ≤ w.heap.size) (ha : Apart A n X m) (ha' : Apart A' n' X m) : Ints w' lo hi X m xs := by
  by_cases h0 : m = 0
  · subst h0
    exact ⟨h.1, h.2.1, h.2.2.1, fun hn => absurd hn (by omega)⟩
  · obtain ⟨b, o, e, h1, h2, hc⟩ := h.2.2.2 (by omega)
    refine ⟨h.1, h.2.1, h.2.2.1, fun _ => ⟨b, o, e, h1, h2, fun j x hx => ?_⟩⟩
    have hj : j < m := by have := h.1; have := (List.getElem?_eq_some_iff.1 hx).1; omega
    have hs := hm.2.2.2.2.2 b (o + j) (by omega) (OutOf.of_apart ha e hj) (OutOf.of_apart ha' e hj)
    exact ⟨hs.1.trans (hc j x hx).1, hs.2.trans (hc j x hx).2⟩
theorem not_in {w : World} {lo hi n b : Nat} {A : Option Addr} {xs : List Int} (h : Ints w lo hi A n xs) (hb : b < lo ∨ hi ≤ b) : 0 < n → ∀ ad : Addr, A = some ad → ad.block ≠ b := by
  intro hn ad ea e
  obtain ⟨b', o, e', h1, h2, _⟩ := h.2.2.2 hn
  rw [ea] at e'
  injection e' with e'
  subst e'
  subst e
  simp at hb
  omega
theorem Box.markD {w w' : World} {A A' : Option Addr} {n n' lo hi lo' hi' b : Nat} {xs xs' : List Int} {cs : List Value} (hx : Box w b cs) (hm : MarkD w w' A n A' n') (h : Ints w lo hi A n xs) (h' : Ints w lo' hi' A' n' xs') (hb : b < lo ∨ hi ≤ b) (hb' : b < lo' ∨ hi' ≤ b) : Box w' b cs :=
  hx.block (hm.2.2.2.2.1 b hx.1 (not_in h hb) (not_in h' hb')) hm.size
theorem below_markD {a w w' : World} {A A' : Option Addr} {n n' lo hi lo' hi' B : Nat} {xs xs' : List Int} (hx : Below B a w) (hm : MarkD w w' A n A' n') (h : Ints w lo hi A n xs) (h' : Ints w lo' hi' A' n' xs') (hb : B ≤ lo) (hb' : B ≤ lo') (hB : B ≤ w.heap.size) : Below B a w' :=
  hx.trans ⟨hm.1, hm.2.1, hm.2.2.1, hm.size, fun k hk => hm.2.2.2.2.1 k (by omega) (not_in h (.inl (by omega))) (not_in h' (.inl (by omega)))⟩

def MarkDPost (A : Option Addr) (n lo hi : Nat) (A' : Option Addr) (n' lo' hi' : Nat) (k : Int) (w : World) (e : Ending) (w' : World) : Prop :=
  e = .returned (.int .i64 (k + (n : Int) + (n' : Int))) ∧ MarkD w w' A n A' n' ∧ Ints w' lo hi A n (seqI k n) ∧ Ints w' lo' hi' A' n' (seqI (k + (n : Int)) n')

set_option maxHeartbeats 1000000 in
theorem markDevice_any {A A' : Option Addr} {n c n' c' : Nat} {D S : List Int} {p q k : Int} {w : World} {L L' B B' : Nat} (h : Ints w L B A n D) (h' : Ints w L' B' A' n' S) (hap : Apart A n A' n') (hB : B ≤ w.heap.size) (hB' : B' ≤ w.heap.size)
    (hk : 0 ≤ k) (hk2 : k ≤ 100000000) (hn : n ≤ 1048576) (hn' : n' ≤ 1048576) :
    Calls Tryd.prog 56 #[.agg #[.slice (A) n c, .int .i64 (p), .slice (A') n' c', .int .i64 (q)], .int .i64 k] w (MarkDPost A n L B A' n' L' B' k w) := by
  have H1 := Lib.hid (h.alloc hB (.cells #[.slice (A) n c, .int .i64 (p), .slice (A') n' c', .int .i64 (q)] 28))
  have H2 := Lib.hid (h'.alloc hB' (.cells #[.slice (A) n c, .int .i64 (p), .slice (A') n' c', .int .i64 (q)] 28))
  have X0 := Lib.hid (Box.new w 28 [.slice (A) n c, .int .i64 (p), .slice (A') n' c', .int .i64 (q)])
  go_enter Tryd.func56, Tryd.ntmps56
  go_wp2_with fail
  refine (markIntS_any H1.out hk (by omega) hn).mono ?_
  rintro e w1 ⟨rfl, hm1, hi1⟩
  have HM1 := Lib.hid hm1
  have HI1 := Lib.hid hi1
  have X1 := Lib.hid (X0.out.mark hm1 H1.out (.inr (by omega)))
  have I2 := Lib.hid (H2.out.mark hm1 hap)
  have s1 := Lib.hid hm1.size
  clear hm1 hi1
  have x0 := (X1.out.2 0 _ rfl).1; have x1 := (X1.out.2 1 _ rfl).1; have x2 := (X1.out.2 2 _ rfl).1; have x3 := (X1.out.2 3 _ rfl).1
  go_wp2_with fail
  refine (markIntS_any I2.out (by omega) (by omega) hn').mono ?_
  rintro e w2 ⟨rfl, hm2, hi2⟩
  have HM2 := Lib.hid hm2
  have HI2 := Lib.hid hi2
  have s2 := Lib.hid hm2.size
  clear hm2 hi2
  go_wp2
  go_ret
  have e1 := s1.out
  have e2 := s2.out
  simp only [World.size_alloc] at e1
  refine ⟨rfl, ⟨HM2.out.1.trans HM1.out.1, HM2.out.2.1.trans HM1.out.2.1, HM2.out.2.2.1.trans HM1.out.2.2.1, by omega, fun b hb hx hy => ?_, fun b o hb hx hy => ?_⟩, HI1.out.mark HM2.out hap.symm, HI2.out⟩
  · exact ((HM2.out.2.2.2.2.1 b hy).trans (HM1.out.2.2.2.2.1 b hx)).trans (Below.heap_alloc w _ b hb)
  · exact ((SameAt.of_block (Below.heap_alloc w _ b hb)).trans (HM1.out.2.2.2.2.2 b o hx)).trans (HM2.out.2.2.2.2.2 b o hy)

set_option maxHeartbeats 1000000 in
theorem heldDevice_any {A A' : Option Addr} {n c n' c' : Nat} {p q k : Int} {w : World} {L L' B B' : Nat} (h : Ints w L B A n (seqI k n)) (h' : Ints w L' B' A' n' (seqI (k + (n : Int)) n')) (hB : B ≤ w.heap.size) (hB' : B' ≤ w.heap.size)
    (hk : 0 ≤ k) (hk2 : k ≤ 100000000) (hn : n ≤ 1048576) (hn' : n' ≤ 1048576) :
    Calls Tryd.prog 57 #[.agg #[.slice (A) n c, .int .i64 (p), .slice (A') n' c', .int .i64 (q)], .int .i64 k] w fun e w' => e = .returned (.int .i64 (k + (n : Int) + (n' : Int))) ∧ Below w.heap.size w w' := by
  have H1 := Lib.hid (h.alloc hB (.cells #[.slice (A) n c, .int .i64 (p), .slice (A') n' c', .int .i64 (q)] 28))
  have H2 := Lib.hid (h'.alloc hB' (.cells #[.slice (A) n c, .int .i64 (p), .slice (A') n' c', .int .i64 (q)] 28))
  go_enter Tryd.func57, Tryd.ntmps57
  go_wp2_with fail
  refine (heldIntS_any H1.out hk (by omega) hn).mono ?_
  rintro e w1 ⟨rfl, rfl⟩
  go_wp2_with fail
  refine (heldIntS_any H2.out (by omega) (by omega) hn').mono ?_
  rintro e w2 ⟨rfl, rfl⟩
  go_wp2
  go_ret
  exact ⟨rfl, by go_grown⟩

/-- The same ints are found the same. -/
theorem eqIntS_same {A A' : Option Addr} {n c n' c' : Nat} {xs : List Int} {w : World} {L B L' B' : Nat} (h : Ints w L B A n xs) (h' : Ints w L' B' A' n' xs) :
    Calls Tryd.prog 18 #[.slice A n c, .slice A' n' c'] w (BoolB true w) :=
  (eqIntS_any h h').mono fun e w' hh => by
    obtain ⟨he, m, rfl⟩ := hh
    rw [sameB_iff.2 rfl] at he
    exact ⟨he, below_drewN (Below.refl _ _) _⟩
theorem heldIntS_b {A : Option Addr} {n c : Nat} {k : Int} {w : World} {lo hi : Nat} (h : Ints w lo hi A n (seqI k n)) (hk : 0 ≤ k) (hk2 : k ≤ 1000000000000) (hn : n ≤ 1048576) :
    Calls Tryd.prog 31 #[.slice A n c, .int .i64 k] w fun e w' => e = .returned (.int .i64 (k + (n : Int))) ∧ Below w.heap.size w w' :=
  (heldIntS_any h hk hk2 hn).mono fun e w' hh => by
    obtain ⟨he, rfl⟩ := hh
    exact ⟨he, Below.refl _ _⟩

theorem toIntS_b {A : Option Addr} {n c : Nat} {xs : List Int} {w : World} {L B : Nat} (h : Ints w L B A n xs) (hB : B ≤ w.heap.size) (hn : n ≤ 1048576) :
    Calls Tryd.prog 15 #[.slice A n c] w fun e w' => ∃ A1 c1, e = .returned (.slice A1 n c1) ∧ n ≤ c1 ∧ Below w.heap.size w w' ∧ Ints w' w.heap.size w'.heap.size A1 n xs :=
  (toIntS_any h hB hn).mono fun e w' hh => by
    obtain ⟨he, hb, hs, hi⟩ := hh
    exact ⟨_, _, he, Nat.le_refl _, hb, hi.more (Nat.le_refl _) (by omega)⟩
end Go.Proofs.YtdiebkaedjlckaaDoor
