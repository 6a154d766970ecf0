/- Contracts of the drawing of plain files. -/
import Derived.Test.YtdiebkaedjlckaaK1
namespace Go.Proofs.Ytdiebkaedjlckaa
open Go.ChangeShapes Go.WideShapes Go.ChangeAt Go.RowKit
set_option linter.unusedSimpArgs false
set_option linter.unusedVariables false

def PlnDraw (g P : Nat) (w : World) (e : Ending) (w' : World) : Prop :=
  ∃ (A : Option Addr) (n c : Nat) (D : List Int) (p : Int), e = .returned (.agg #[.slice (A) n c, .int .i64 (p)]) ∧ n = D.length ∧ n ≤ 61 ∧ (∀ x ∈ D, -1 ≤ x ∧ x ≤ 256) ∧ (-1 ≤ p ∧ p ≤ 61) ∧
    OwnI w' w.heap.size (.slice A n c) n D ∧ Ch w' g P ∧ Turn w.heap.size g w w'
theorem at_listP {r l : Int} (h1 : 0 ≤ r) (h2 : r ≤ 41) (h3 : 0 ≤ l ∧ l ≤ 40) : ∀ x ∈ [0, r, l, l + 3, 58], -1000000 ≤ x ∧ x ≤ 1000000 ∧ 0 ≤ x ∧ x ≤ 60 := fun x hx => by
  simp at hx
  omega
theorem at_listP2 {r l : Int} (h1 : 0 ≤ r) (h2 : r ≤ 41) (h3 : 0 ≤ l ∧ l ≤ 40) : ∀ x ∈ [0, r, l, if l + 3 < 60 then l + 3 else 60, 58], -1000000 ≤ x ∧ x ≤ 1000000 ∧ 0 ≤ x ∧ x ≤ 60 := fun x hx => by
  rw [if_pos (by omega)] at hx
  simp at hx
  omega
set_option maxHeartbeats 2000000 in
theorem somePlain_any {g P : Nat} {w : World} (h : Ch w g P) (hP : P ≤ 400000) :
    Calls Try.prog 43 #[.pointer (some ⟨g, 0, none⟩)] w (PlnDraw g (P + 500) w) := by
  have hg := h.lt
  have HCH := Lib.hid (h.alloc (.cells #[.slice none 0 0, .int .i64 0] 35))
  have X0 := Lib.hid (Box.new w 35 [.slice none 0 0, .int .i64 0])
  clear h
  go_enter Try.func43, Try.ntmps43
  go_wp2_with fail
  refine (someBytes_any HCH.out (by omega)).mono ?_
  rintro e w1 ⟨v, D, rfl, ⟨hD1, hD2⟩, hown, hch, ht⟩
  rw [World.size_alloc] at hown ht
  obtain ⟨A, c, rfl, hnc, _⟩ := hown.ints (fun x hx => by have := hD2 x hx; unfold okInt; omega)
  have HD2 := Lib.hid hD2
  have X1 := Lib.hid (X0.out.turn ht (by omega) (by omega))
  have hs1 := ht.size
  rw [World.size_alloc] at hs1
  have HT1 := Lib.hid ((Turn.of_below (B := w.heap.size) (Below.alloc (Below.refl _ w) (Nat.le_refl _) (.cells #[.slice none 0 0, .int .i64 0] 35)) (Nat.le_refl _)).trans (ht.mono (by omega)))
  have HBD := Lib.hid fun k hk => (hown.lt k hk).2
  have HC3 := Lib.hid (hch.alloc (.cells #[.slice (A) D.length c, .int .i64 (0)] 35))
  have X3 := Lib.hid (Box.new w1 35 [.slice (A) D.length c, .int .i64 (0)])
  have HO3 := Lib.hid (hown.alloc (.cells #[.slice (A) D.length c, .int .i64 (0)] 35))
  have HT3 := Lib.hid (HT1.out.step (Below.alloc (Below.refl _ _) (Nat.le_refl _) (.cells #[.slice (A) D.length c, .int .i64 (0)] 35)) (by omega))
  have R3 := Lib.hid (X1.out.alloc (.cells #[.slice (A) D.length c, .int .i64 (0)] 35))
  have x0 := (X1.out.2 0 _ rfl).1; have x1 := (X1.out.2 1 _ rfl).1
  have f0 := (X1.out.2 0 _ rfl).2; have f1 := (X1.out.2 1 _ rfl).2
  go_wp2_with fail
  clear x0 x1
  clear f0 f1
  clear hown hch ht HCH X0 hD2 X1 HT1
  have hs3 : (w1.alloc (.cells #[.slice (A) D.length c, .int .i64 (0)] 35)).heap.size = w1.heap.size + 1 := by simp
  generalize w1.alloc (.cells #[.slice (A) D.length c, .int .i64 (0)] 35) = w3 at *
  have x0 := (X3.out.2 0 _ rfl).1; have x1 := (X3.out.2 1 _ rfl).1
  have f0 := (X3.out.2 0 _ rfl).2; have f1 := (X3.out.2 1 _ rfl).2
  have n1 : IntKind.i64.wrap ((D.length : Int) + 1) = (D.length : Int) + 1 := IntWalk.i64_in _ (by omega)
  have n2 : IntKind.i64.wrap ((D.length : Int) + 3) = (D.length : Int) + 3 := IntWalk.i64_in _ (by omega)
  have hm60 : (D.length : Int) + 3 < 60 := by omega
  go_region_held3 (fun w' => w'.cell? ⟨w1.heap.size, 0, none⟩ = some (.slice A D.length c)) (first | go_keep | (rw [World.cell?_setCell_other _ _ _ _ (by simp)]; go_keep))
    (first | ((go_at_call 75; refine (pick_any (m := (D.length : Int) + 1) (w := w3.drew) HC3.out (by omega) (by omega)).mono ?_; rintro e w4 ⟨r, rfl, ⟨hr0, hr1, _⟩, hch, ht⟩; have hr2 := hr1 (by omega); clear x0 x1; clear f0 f1; have HC4 := Lib.hid hch; have X4 := Lib.hid (X3.out.drew.turn ht (by simp; omega) (by omega)); have HT4 := Lib.hid ht; clear hch ht; have x0 := (X4.out.2 0 _ rfl).1; have x1 := (X4.out.2 1 _ rfl).1; have f0 := (X4.out.2 0 _ rfl).2; have f1 := (X4.out.2 1 _ rfl).2)) | ((go_at_call 70; (first | refine (one_lit [0, r, (D.length : Int), if (D.length : Int) + 3 < 60 then (D.length : Int) + 3 else 60, 58] HC4.out (by omega) rfl rfl rfl (by simp) (by simp) (fun x hx => by have := at_listP2 (r := r) (l := (D.length : Int)) hr0 (by omega) (by omega) x hx; omega)).mono ?_ | refine (one_lit [0, r, (D.length : Int), (D.length : Int) + 3, 58] HC4.out (by omega) rfl rfl rfl (by simp) (by simp) (fun x hx => by have := at_listP (r := r) (l := (D.length : Int)) hr0 (by omega) (by omega) x hx; omega)).mono ?_); rintro e w5 ⟨p, hp, rfl, hch, ht⟩; have hp1 : 0 ≤ p ∧ p ≤ 60 := (by first | exact (at_listP2 hr0 (by omega) (by omega) p hp).2.2 | exact (at_listP hr0 (by omega) (by omega) p hp).2.2); clear x0 x1; clear f0 f1; have HC5 := Lib.hid hch; have X5 := Lib.hid (X4.out.turn ht X4.out.lt (by omega)); have HT5 := Lib.hid ht; clear hch ht hp; have x0 := (X5.out.2 0 _ rfl).1; have x1 := (X5.out.2 1 _ rfl).1; have f0 := (X5.out.2 0 _ rfl).2; have f1 := (X5.out.2 1 _ rfl).2)))
  all_goals
    clear n1 n2
    have s4 := HT4.out.size
    have s5 := HT5.out.size
    rw [World.size_drew] at s4
    have HT6 := Lib.hid ((HT3.out.drew.trans (HT4.out.mono (by simp; omega))).trans (HT5.out.mono (by omega)))
    have HO6 := Lib.hid ((HO3.out.drewN 1 |>.turn HT4.out (Nat.le_refl _) (by omega)).turn HT5.out (Nat.le_refl _) (by omega))
    have R6 := Lib.hid ((((R3.out.drew).turn HT4.out (by simp; omega) (by omega)).turn HT5.out (by omega) (by omega)).set_ (o := 1) (show w.heap.size ≠ w1.heap.size by omega) (.int .i64 p))
    clear R3 HT3 HT4 HT5 HO3 HC3 HC4 X3 X4
    have X6 := Lib.hid (X5.out.put (i := 1) (by simp) (.int .i64 p))
    have HC6 : Hid (Ch (w5.setCell ⟨w1.heap.size, 1, none⟩ (.int .i64 p)) g (P + 100 + 1 + 1)) := HC5.out.below (below_set (Below.refl w1.heap.size w5) (Nat.le_refl _) _) (by omega)
    have HT7 := Lib.hid (HT6.out.step (below_set (Below.refl w1.heap.size w5) (Nat.le_refl _) (o := 1) (.int .i64 p)) (by omega))
    have HO7 := Lib.hid (HO6.out.put_ (o := 1) (fun k hk => Nat.ne_of_lt (HBD.out k hk)) (.int .i64 p))
    clear HO6 HT6 HC5 X5
    go_wp2_with fail
    clear x0 x1
    clear f0 f1
    have hs6 : (w5.setCell ⟨w1.heap.size, 1, none⟩ (.int .i64 p)).heap.size = w5.heap.size := by simp
    (try rw [← hs6])
    generalize w5.setCell ⟨w1.heap.size, 1, none⟩ (.int .i64 p) = w6 at *
    refine (pick_any HC6.out (by omega) (by decide)).mono ?_
    rintro e w7 ⟨t, rfl, _, hch, ht⟩
    have hs7 := ht.size
    have HC8 := Lib.hid hch
    have X8 := Lib.hid (X6.out.turn ht (by omega) (by omega))
    have HT8 := Lib.hid (HT7.out.trans (ht.mono (by omega)))
    have R8 := Lib.hid (R6.out.turn ht (by omega) (by omega))
    have HO8 := Lib.hid (HO7.out.turn ht (Nat.le_refl _) (by omega))
    clear R6 hch ht HC6 X6 HT7 HO7
    by_cases h0 : t = 0
    · subst h0
      go_wp2_with fail
      refine (one_lit [-1, 61] HC8.out (by omega) rfl rfl rfl (by decide) (by decide) (by decide)).mono ?_
      rintro e w9 ⟨y, hy, rfl, hch, ht⟩
      have hy1 : -1 ≤ y ∧ y ≤ 61 := by simp at hy; omega
      have hs9 := ht.size
      have HC9 := Lib.hid hch
      have X9 := Lib.hid (X8.out.turn ht (by omega) (by omega))
      have R9 := Lib.hid (R8.out.turn ht (by omega) (by omega))
      have HT9 := Lib.hid (HT8.out.trans (ht.mono (by omega)))
      have HO9 := Lib.hid (HO8.out.turn ht (Nat.le_refl _) (by omega))
      clear hch ht hy HC8 X8 R8 HT8 HO8
      have x0 := (X9.out.2 0 _ rfl).1; have x1 := (X9.out.2 1 _ rfl).1
      have f0 := (X9.out.2 0 _ rfl).2; have f1 := (X9.out.2 1 _ rfl).2
      have r0 := (R9.out.2 0 _ rfl).1; have r1 := (R9.out.2 1 _ rfl).1
      have g0 := (R9.out.2 0 _ rfl).2; have g1 := (R9.out.2 1 _ rfl).2
      go_wp2
      refine bodyPost_ret (v := .agg #[.slice (A) D.length c, .int .i64 (y)]) (by simp [results, Try.results43, go_sem, r0, r1, g0, g1]) rfl ?_
      have k1 : ∀ k, (Value.slice A D.length c).ownBlock = some k → k ≠ w.heap.size := fun k hk => by have := (HO9.out.lt k hk).1; omega
      refine ⟨A, D.length, c, D, y, rfl, by simp [*], by omega, fun x hx => by have := HD2.out x hx; omega, by omega, ?_, ?_, ?_⟩
      · exact (OwnI.put_ (OwnI.put_ (OwnI.put_ (OwnI.mono_ HO9.out (by omega)) (fun k hk => Nat.ne_of_lt (HBD.out k hk)) _) k1 _) k1 _)
      · refine Ch.more (Ch.below HC9.out (B := w.heap.size) ?_ (by omega)) (by omega)
        (repeat (with_reducible refine below_set ?_ (by omega) _))
        exact Below.refl _ _
      · refine HT9.out.step (C := w.heap.size) ?_ (by omega)
        (repeat (with_reducible refine below_set ?_ (by omega) _))
        exact Below.refl _ _
    · by_cases h1 : t = 1
      · subst h1
        go_wp2_with fail
        refine (anyBytes_any HC8.out (by omega)).mono ?_
        rintro e w9 ⟨v, D4, rfl, ⟨hL, hB⟩, hown, hch, ht⟩
        obtain ⟨A4, c4, rfl, _, _⟩ := hown.ints (fun x hx => by have := hB x hx; unfold okInt; omega)
        have hs9 := ht.size
        have HC9 := Lib.hid hch
        have X9 := Lib.hid (X8.out.turn ht (by omega) (by omega))
        have R9 := Lib.hid (R8.out.turn ht (by omega) (by omega))
        have HT9 := Lib.hid (HT8.out.trans (ht.mono (by omega)))
        have HBD4 : Hid (∀ k, (Value.slice A4 D4.length c4).ownBlock = some k → k ≠ w1.heap.size) := fun k hk => by have := (hown.lt k hk).1; omega
        have HO9 := Lib.hid hown
        have HD4 := Lib.hid hB
        clear hown hB hch ht HC8 X8 R8 HT8
        have x0 := (X9.out.2 0 _ rfl).1; have x1 := (X9.out.2 1 _ rfl).1
        have f0 := (X9.out.2 0 _ rfl).2; have f1 := (X9.out.2 1 _ rfl).2
        have r0 := (R9.out.2 0 _ rfl).1; have r1 := (R9.out.2 1 _ rfl).1
        have g0 := (R9.out.2 0 _ rfl).2; have g1 := (R9.out.2 1 _ rfl).2
        go_wp2
        refine bodyPost_ret (v := .agg #[.slice (A4) D4.length c4, .int .i64 (p)]) (by simp [results, Try.results43, go_sem, r0, r1, g0, g1]) rfl ?_
        have k1 : ∀ k, (Value.slice A4 D4.length c4).ownBlock = some k → k ≠ w.heap.size := fun k hk => by have := (HO9.out.lt k hk).1; omega
        refine ⟨A4, D4.length, c4, D4, p, rfl, by simp [*], by omega, HD4.out, by omega, ?_, ?_, ?_⟩
        · exact (OwnI.put_ (OwnI.put_ (OwnI.put_ (OwnI.mono_ HO9.out (by omega)) HBD4.out _) k1 _) k1 _)
        · refine Ch.more (Ch.below HC9.out (B := w.heap.size) ?_ (by omega)) (by omega)
          (repeat (with_reducible refine below_set ?_ (by omega) _))
          exact Below.refl _ _
        · refine HT9.out.step (C := w.heap.size) ?_ (by omega)
          (repeat (with_reducible refine below_set ?_ (by omega) _))
          exact Below.refl _ _
      · have e0 : (t == 0) = false := by simp [h0]
        have e1 : (t == 1) = false := by simp [h1]
        have x0 := (X8.out.2 0 _ rfl).1; have x1 := (X8.out.2 1 _ rfl).1
        have f0 := (X8.out.2 0 _ rfl).2; have f1 := (X8.out.2 1 _ rfl).2
        have r0 := (R8.out.2 0 _ rfl).1; have r1 := (R8.out.2 1 _ rfl).1
        have g0 := (R8.out.2 0 _ rfl).2; have g1 := (R8.out.2 1 _ rfl).2
        go_wp2
        refine bodyPost_ret (v := .agg #[.slice (A) D.length c, .int .i64 (p)]) (by simp [results, Try.results43, go_sem, r0, r1, g0, g1]) rfl ?_
        have k1 : ∀ k, (Value.slice A D.length c).ownBlock = some k → k ≠ w.heap.size := fun k hk => by have := (HO8.out.lt k hk).1; omega
        refine ⟨A, D.length, c, D, p, rfl, by simp [*], by omega, fun x hx => by have := HD2.out x hx; omega, by omega, ?_, ?_, ?_⟩
        · exact (OwnI.put_ (OwnI.put_ (OwnI.mono_ HO8.out (by omega)) k1 _) k1 _)
        · refine Ch.more (Ch.below HC8.out (B := w.heap.size) ?_ (by omega)) (by omega)
          (repeat (with_reducible refine below_set ?_ (by omega) _))
          exact Below.refl _ _
        · refine HT8.out.step (C := w.heap.size) ?_ (by omega)
          (repeat (with_reducible refine below_set ?_ (by omega) _))
          exact Below.refl _ _

/-- A plain file in blocks from lo on, drawn. -/
def PlnX (lo : Nat) (w w' : World) (A : Option Addr) (n c : Nat) (D : List Int) (p : Int) : Prop :=
  n ≤ c ∧ Below w.heap.size w w' ∧ Ints w' lo w'.heap.size A n D ∧ n ≤ 61 ∧ (-1 ≤ p ∧ p ≤ 61)
theorem PlnX.set_ {lo b o : Nat} {w w' : World} {n c : Nat} {A : Option Addr} {D : List Int} {p : Int} (h : PlnX lo w w' A n c D p) (hb : w.heap.size ≤ b) (hl : b < lo) (u : Value) : PlnX lo w (w'.setCell ⟨b, o, none⟩ u) A n c D p := by
  obtain ⟨h1, h2, h3, h5⟩ := h
  refine ⟨h1, below_set h2 hb u, ?_, h5⟩
  rw [World.size_setCell]; exact h3.set_ (Or.inl hl) u
theorem PlnX.down {lo : Nat} {w w' : World} {n c : Nat} {A : Option Addr} {D : List Int} {p : Int} (h : PlnX lo w w' A n c D p) (hl : w.heap.size ≤ lo) : PlnX w.heap.size w w' A n c D p :=
  ⟨h.1, h.2.1, h.2.2.1.more hl (Nat.le_refl _), h.2.2.2⟩
theorem PlnX.of {lo : Nat} {w w1 w2 w3 : World} {g n c : Nat} {A : Option Addr} {D : List Int} {p : Int} (hb : Below w.heap.size w w1) (hg : w.heap.size ≤ g) (hg1 : g < w1.heap.size) (hlo : lo ≤ w1.heap.size)
    (ho : OwnI w2 w1.heap.size (.slice A n c) n D) (ht : Turn w1.heap.size g w1 w2) (ht2 : Turn w2.heap.size g w2 w3)
    (hD : ∀ x ∈ D, -1 ≤ x ∧ x ≤ 256) (hn : n ≤ 61) (hp : -1 ≤ p ∧ p ≤ 61) : PlnX lo w w3 A n c D p := by
  have s1 := ht.size
  have s2 := ht2.size
  obtain ⟨h1, i1⟩ := own_ints (ho.turn ht2 (Nat.le_refl _) hg1) hD (by decide) (by decide)
  exact ⟨h1, (hb.trans (ht.below (by omega) (by omega))).trans (ht2.below (by omega) (by omega)), i1.more (by omega) (Nat.le_refl _), hn, hp⟩
def DrawnPI (w : World) (e : Ending) (w' : World) : Prop := ∃ A n c D p z, e = .returned (.tuple #[.agg #[.slice (A) n c, .int .i64 (p)], .int .i64 z]) ∧ PlnX w.heap.size w w' A n c D p ∧ (-1 ≤ z ∧ z ≤ 61)
def DrawnPS (w : World) (e : Ending) (w' : World) : Prop := ∃ A n c D p zo zw, e = .returned (.tuple #[.agg #[.slice (A) n c, .int .i64 (p)], .int .i64 zo, .int .i64 zw]) ∧ PlnX w.heap.size w w' A n c D p ∧ (-61 ≤ zo ∧ zo ≤ 61) ∧ (-1 ≤ zw ∧ zw ≤ 3)
def DrawnPL (w : World) (e : Ending) (w' : World) : Prop := ∃ A n c D p A1 n1 c1 L, e = .returned (.tuple #[.agg #[.slice (A) n c, .int .i64 (p)], .slice A1 n1 c1]) ∧ PlnX w.heap.size w w' A n c D p ∧ n1 ≤ c1 ∧ Ints w' w.heap.size w'.heap.size A1 n1 L ∧ n1 ≤ 61

set_option maxHeartbeats 1000000 in
theorem DrawPlainRead_any {A : Option Addr} {n c : Nat} {w : World} (h : BytesIn w w.heap.size A n) (hn : n ≤ 1048576) (hnc : n ≤ c) : Calls Try.prog 15 #[.slice A n c] w (DrawnPI w) := by
  have R0 := Lib.hid (Box.new w 35 [.slice none 0 0, .int .i64 0])
  go_enter Try.func15, Try.ntmps15
  go_wp2_with fail
  refine (newChooser_any (h.alloc _) hn hnc).mono ?_
  rintro e w1 ⟨rfl, hch, hb⟩
  (try simp only [World.size_alloc, World.size_setCell, World.size_drew] at hch hb)
  have HC := Lib.hid hch
  have hg := hch.lt
  have HB : Hid (Below w.heap.size w w1) := below_step hb (by go_grown) (by omega)
  have R1 := Lib.hid (R0.out.below hb (by omega))
  clear hch hb R0
  go_wp2_with fail
  refine (somePlain_any HC.out (by omega)).mono ?_
  rintro e w2 ⟨A, n, c, D, p, rfl, hn, hn1, hD, hp, hown, hch, ht⟩
  subst hn
  have HC2 := Lib.hid hch
  have HX : Hid (∀ w3, Turn w2.heap.size (w.heap.size + 1) w2 w3 → PlnX w1.heap.size w w3 A D.length c D p) := fun w3 ht2 => PlnX.of HB.out (by omega) hg (Nat.le_refl _) hown ht ht2 hD hn1 hp
  have R2 := Lib.hid (R1.out.turn ht (by omega) (by omega))
  have s2 := ht.size
  clear hD hown ht hch R1
  go_wp2_with fail
  refine (aCount_any HC2.out (by omega)).mono ?_
  rintro e w3 ⟨z, hz, rfl, _, ht⟩
  have hz1 : -1 ≤ z ∧ z ≤ 61 := by simp at hz; omega
  have R3 := Lib.hid (R2.out.turn ht (by omega) (by omega))
  have HX3 := Lib.hid (HX.out _ ht)
  clear ht R2 HX hz
  have r0 := (R3.out.2 0 _ rfl).1; have r1 := (R3.out.2 1 _ rfl).1
  have g0 := (R3.out.2 0 _ rfl).2; have g1 := (R3.out.2 1 _ rfl).2
  go_wp2
  refine bodyPost_ret (v := .tuple #[.agg #[.slice (A) D.length c, .int .i64 (p)], .int .i64 z]) (by simp [results, Try.results15, go_sem, r0, r1, g0, g1]) rfl ?_
  exact ⟨_, _, _, D, p, z, rfl, ((HX3.out.set_ (by omega) (by omega) _).set_ (by omega) (by omega) _).down (by omega), hz1⟩

set_option maxHeartbeats 1000000 in
theorem DrawPlainSeek_any {A : Option Addr} {n c : Nat} {w : World} (h : BytesIn w w.heap.size A n) (hn : n ≤ 1048576) (hnc : n ≤ c) : Calls Try.prog 24 #[.slice A n c] w (DrawnPS w) := by
  have R0 := Lib.hid (Box.new w 35 [.slice none 0 0, .int .i64 0])
  go_enter Try.func24, Try.ntmps24
  go_wp2_with fail
  refine (newChooser_any (h.alloc _) hn hnc).mono ?_
  rintro e w1 ⟨rfl, hch, hb⟩
  (try simp only [World.size_alloc, World.size_setCell, World.size_drew] at hch hb)
  have HC := Lib.hid hch
  have hg := hch.lt
  have HB : Hid (Below w.heap.size w w1) := below_step hb (by go_grown) (by omega)
  have R1 := Lib.hid (R0.out.below hb (by omega))
  clear hch hb R0
  go_wp2_with fail
  refine (somePlain_any HC.out (by omega)).mono ?_
  rintro e w2 ⟨A, n, c, D, p, rfl, hn, hn1, hD, hp, hown, hch, ht⟩
  subst hn
  have HC2 := Lib.hid hch
  have HX : Hid (∀ w3, Turn w2.heap.size (w.heap.size + 1) w2 w3 → PlnX w1.heap.size w w3 A D.length c D p) := fun w3 ht2 => PlnX.of HB.out (by omega) hg (Nat.le_refl _) hown ht ht2 hD hn1 hp
  have R2 := Lib.hid (R1.out.turn ht (by omega) (by omega))
  have s2 := ht.size
  clear hD hown ht hch R1
  go_wp2_with fail
  refine (aSeek_any (HC2.out.alloc (.cells #[.slice (A) D.length c, .int .i64 (p)] 35)) (by omega)).mono ?_
  rintro e w3 ⟨zo, zw, rfl, h1, h2, _, ht⟩
  rw [World.size_alloc] at ht
  have X3 := Lib.hid ((Box.new w2 35 [.slice (A) D.length c, .int .i64 (p)]).turn ht (by omega) (by omega))
  have R3 := Lib.hid ((R2.out.alloc (.cells #[.slice (A) D.length c, .int .i64 (p)] 35)).turn ht (by omega) (by omega))
  have HX3 := Lib.hid (HX.out _ ((Turn.of_below (B := w2.heap.size) (Below.alloc (Below.refl _ w2) (Nat.le_refl _) (.cells #[.slice (A) D.length c, .int .i64 (p)] 35)) (Nat.le_refl _)).trans (ht.mono (by omega))))
  clear ht R2 HX
  have x0 := (X3.out.2 0 _ rfl).1; have x1 := (X3.out.2 1 _ rfl).1
  have r0 := (R3.out.2 0 _ rfl).1; have r1 := (R3.out.2 1 _ rfl).1
  have g0 := (R3.out.2 0 _ rfl).2; have g1 := (R3.out.2 1 _ rfl).2
  go_wp2
  refine bodyPost_ret (v := .tuple #[.agg #[.slice (A) D.length c, .int .i64 (p)], .int .i64 zo, .int .i64 zw]) (by simp [results, Try.results24, go_sem, r0, r1, g0, g1]) rfl ?_
  exact ⟨_, _, _, D, p, zo, zw, rfl, ((HX3.out.set_ (by omega) (by omega) _).set_ (by omega) (by omega) _).down (by omega), h1, h2⟩

set_option maxHeartbeats 1000000 in
theorem DrawPlainWrite_any {A : Option Addr} {n c : Nat} {w : World} (h : BytesIn w w.heap.size A n) (hn : n ≤ 1048576) (hnc : n ≤ c) : Calls Try.prog 21 #[.slice A n c] w (DrawnPL w) := by
  have R0 := Lib.hid (Box.new w 35 [.slice none 0 0, .int .i64 0])
  go_enter Try.func21, Try.ntmps21
  go_wp2_with fail
  refine (newChooser_any (h.alloc _) hn hnc).mono ?_
  rintro e w1 ⟨rfl, hch, hb⟩
  (try simp only [World.size_alloc, World.size_setCell, World.size_drew] at hch hb)
  have HC := Lib.hid hch
  have hg := hch.lt
  have HB : Hid (Below w.heap.size w w1) := below_step hb (by go_grown) (by omega)
  have R1 := Lib.hid (R0.out.below hb (by omega))
  clear hch hb R0
  go_wp2_with fail
  refine (somePlain_any HC.out (by omega)).mono ?_
  rintro e w2 ⟨A, n, c, D, p, rfl, hn, hn1, hD, hp, hown, hch, ht⟩
  subst hn
  have HC2 := Lib.hid hch
  have HX : Hid (∀ w3, Turn w2.heap.size (w.heap.size + 1) w2 w3 → PlnX w1.heap.size w w3 A D.length c D p) := fun w3 ht2 => PlnX.of HB.out (by omega) hg (Nat.le_refl _) hown ht ht2 hD hn1 hp
  have R2 := Lib.hid (R1.out.turn ht (by omega) (by omega))
  have s2 := ht.size
  clear hD hown ht hch R1
  go_wp2_with fail
  refine (anyBytes_any HC2.out (by omega)).mono ?_
  rintro e w3 ⟨v, xs, rfl, ⟨hl, hxs⟩, hown, _, ht⟩
  obtain ⟨A1, c1, rfl, hc1, hI⟩ := hown.ints (fun x hx => by have := hxs x hx; unfold okInt; omega)
  have R3 := Lib.hid (R2.out.turn ht (by omega) (by omega))
  have HX3 := Lib.hid (HX.out _ ht)
  have HI := Lib.hid hI
  clear ht hown hI hxs R2 HX
  have r0 := (R3.out.2 0 _ rfl).1; have r1 := (R3.out.2 1 _ rfl).1
  have g0 := (R3.out.2 0 _ rfl).2; have g1 := (R3.out.2 1 _ rfl).2
  go_wp2
  refine bodyPost_ret (v := .tuple #[.agg #[.slice (A) D.length c, .int .i64 (p)], .slice A1 xs.length c1]) (by simp [results, Try.results21, go_sem, r0, r1, g0, g1]) rfl ?_
  refine ⟨_, _, _, D, p, _, _, _, xs, rfl, ((HX3.out.set_ (by omega) (by omega) _).set_ (by omega) (by omega) _).down (by omega), hc1, ?_, hl⟩
  simp only [World.size_setCell]
  refine Ints.more (lo := w2.heap.size) (hi := w3.heap.size) ?_ (by omega) (Nat.le_refl _)
  (repeat (with_reducible refine Ints.set_ ?_ (by omega) _))
  exact HI.out
end Go.Proofs.Ytdiebkaedjlckaa
