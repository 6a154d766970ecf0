/- A good device, drawn: of few calls. -/
import Derived.Test.YtmjmplfhedknhaaD6
import Derived.Test.YtmjmplfhedknhaaO3
import Derived.Test.YtmjmplfhedknhaaD8
import Derived.Deep.RegionLaw
namespace Go.Proofs.Ytmjmplfhedknhaa
section
open Go.ChangeShapes Go.WideShapes Go.ChangeAt Go.RowKit
set_option linter.unusedSimpArgs false
set_option linter.unusedVariables false

def DevGood (g P : Nat) (w : World) (e : Ending) (w' : World) : Prop :=
  ∃ (A : Option Addr) (n c : Nat) (A' : Option Addr) (n' c' : Nat) (D S : List Int) (p q : Int), e = .returned (.agg #[.slice (A) n c, .int .i64 (p), .slice (A') n' c', .int .i64 (q)]) ∧ n = D.length ∧ n' = S.length ∧ n ≤ 61 ∧ n' ≤ 6 ∧ (∀ x ∈ D, 0 ≤ x ∧ x ≤ 255) ∧ (∀ x ∈ S, -1 ≤ x ∧ x ≤ 60) ∧ (0 ≤ p ∧ p ≤ 60) ∧ (0 ≤ q ∧ q ≤ 2) ∧
    OwnI w' w.heap.size (.slice A n c) n D ∧ OwnI w' w.heap.size (.slice A' n' c') n' S ∧ ((Value.slice A n c).ownBlock = none ∨ (Value.slice A n c).ownBlock ≠ (Value.slice A' n' c').ownBlock) ∧ Ch w' g P ∧ Turn w.heap.size g w w'
set_option maxHeartbeats 2000000 in
theorem goodDevice_q {g P : Nat} {w : World} (h : Ch w g P) (hP : P ≤ 800000) :
    Calls Try.prog 84 #[.pointer (some ⟨g, 0, none⟩)] w (DevGood g (P + 200) w) := by
  have hg := h.lt
  have HCH := Lib.hid (h.alloc (.cells #[.slice none 0 0, .int .i64 0, .slice none 0 0, .int .i64 0] 25))
  have X0 := Lib.hid (Box.new w 25 [.slice none 0 0, .int .i64 0, .slice none 0 0, .int .i64 0])
  clear h
  go_enter Try.func84, Try.ntmps84
  go_wp2_with fail
  refine (someBytes_any HCH.out (by omega)).mono ?_
  rintro e w1 ⟨v, D, rfl, ⟨hD1, hD2⟩, hown, hch, ht⟩
  rw [World.size_alloc] at hown ht
  obtain ⟨A, c, rfl, hnc, _⟩ := hown.ints (fun x hx => by have := hD2 x hx; unfold okInt; omega)
  have HD2 := Lib.hid hD2
  have X1 := Lib.hid (X0.out.turn ht (by omega) (by omega))
  have HC1 := Lib.hid hch
  have hs1 := ht.size
  rw [World.size_alloc] at hs1
  have HT1 := Lib.hid ((Turn.of_below (B := w.heap.size) (Below.alloc (Below.refl _ w) (Nat.le_refl _) (.cells #[.slice none 0 0, .int .i64 0, .slice none 0 0, .int .i64 0] 25)) (Nat.le_refl _)).trans (ht.mono (by omega)))
  have HO1 := Lib.hid hown
  clear hown hch ht HCH X0 hD2
  go_wp2_with fail
  refine (someScript_any HC1.out (by omega)).mono ?_
  rintro e w2 ⟨v', S, rfl, ⟨hS1, hS2⟩, hown, hch, ht⟩
  obtain ⟨A', c', rfl, hnc', _⟩ := hown.ints (fun x hx => by have := hS2 x hx; unfold okInt; omega)
  have HS2 := Lib.hid hS2
  have X2 := Lib.hid (X1.out.turn ht (by omega) (by omega))
  have HC2 := Lib.hid hch
  have hs2 := ht.size
  have HT2 := Lib.hid (HT1.out.trans (ht.mono (by omega)))
  have HO2 := Lib.hid (HO1.out.turn ht (Nat.le_refl _) (by omega))
  have HP2 := Lib.hid hown
  have hne : (Value.slice A D.length c).ownBlock = none ∨ (Value.slice A D.length c).ownBlock ≠ (Value.slice A' S.length c').ownBlock := by
    cases e : (Value.slice A D.length c).ownBlock with
    | none => exact .inl rfl
    | some k =>
      refine .inr fun hk => ?_
      have h1 := (HO1.out.lt k e).2
      have h2 := (hown.lt k hk.symm).1
      omega
  have HNE := Lib.hid hne
  have HBD := Lib.hid fun k hk => (HO2.out.lt k hk).2
  have HBS := Lib.hid fun k hk => (hown.lt k hk).2
  clear hown hch ht HC1 X1 hS2 HT1 HO1 hne
  have x0 := (X2.out.2 0 _ rfl).1; have x1 := (X2.out.2 1 _ rfl).1; have x2 := (X2.out.2 2 _ rfl).1; have x3 := (X2.out.2 3 _ rfl).1
  have f0 := (X2.out.2 0 _ rfl).2; have f1 := (X2.out.2 1 _ rfl).2; have f2 := (X2.out.2 2 _ rfl).2; have f3 := (X2.out.2 3 _ rfl).2
  have HC3 := Lib.hid (HC2.out.alloc (.cells #[.slice (A) D.length c, .int .i64 (0), .slice (A') S.length c', .int .i64 (0)] 25))
  have X3 := Lib.hid (Box.new w2 25 [.slice (A) D.length c, .int .i64 (0), .slice (A') S.length c', .int .i64 (0)])
  have HO3 := Lib.hid (HO2.out.alloc (.cells #[.slice (A) D.length c, .int .i64 (0), .slice (A') S.length c', .int .i64 (0)] 25))
  have HP3 := Lib.hid (HP2.out.alloc (.cells #[.slice (A) D.length c, .int .i64 (0), .slice (A') S.length c', .int .i64 (0)] 25))
  have HT3 := Lib.hid (HT2.out.step (Below.alloc (Below.refl _ _) (Nat.le_refl _) (.cells #[.slice (A) D.length c, .int .i64 (0), .slice (A') S.length c', .int .i64 (0)] 25)) (by omega))
  have R3 := Lib.hid (X2.out.alloc (.cells #[.slice (A) D.length c, .int .i64 (0), .slice (A') S.length c', .int .i64 (0)] 25))
  go_wp2_with fail
  clear x0 x1 x2 x3
  clear f0 f1 f2 f3
  clear HC2 X2 HO2 HP2 HT2
  have hs3 : (w2.alloc (.cells #[.slice (A) D.length c, .int .i64 (0), .slice (A') S.length c', .int .i64 (0)] 25)).heap.size = w2.heap.size + 1 := by simp
  generalize w2.alloc (.cells #[.slice (A) D.length c, .int .i64 (0), .slice (A') S.length c', .int .i64 (0)] 25) = w3 at *
  have x0 := (X3.out.2 0 _ rfl).1; have x1 := (X3.out.2 1 _ rfl).1; have x2 := (X3.out.2 2 _ rfl).1; have x3 := (X3.out.2 3 _ rfl).1
  have f0 := (X3.out.2 0 _ rfl).2; have f1 := (X3.out.2 1 _ rfl).2; have f2 := (X3.out.2 2 _ rfl).2; have f3 := (X3.out.2 3 _ rfl).2
  have n1 : IntKind.i64.wrap ((D.length : Int) + 1) = (D.length : Int) + 1 := IntWalk.i64_in _ (by omega)
  have n2 : IntKind.i64.wrap ((D.length : Int) + 2) = (D.length : Int) + 2 := IntWalk.i64_in _ (by omega)
  have hm60 : (D.length : Int) + 2 < 60 := by omega
  go_region_held3 (fun w' => w'.cell? ⟨w2.heap.size, 0, none⟩ = some (.slice A D.length c)) (first | go_keep | (rw [World.cell?_setCell_other _ _ _ _ (by simp)]; go_keep))
    (first | ((go_at_call 68; refine (pick_any (m := (D.length : Int) + 1) (w := w3.drew) HC3.out (by omega) (by omega)).mono ?_; rintro e w4 ⟨r, rfl, ⟨hr0, hr1, _⟩, hch, ht⟩; have hr2 := hr1 (by omega); clear x0 x1 x2 x3; clear f0 f1 f2 f3; have HC4 := Lib.hid hch; have X4 := Lib.hid (X3.out.drew.turn ht (by simp; omega) (by omega)); have HT4 := Lib.hid ht; clear hch ht; have x0 := (X4.out.2 0 _ rfl).1; have x1 := (X4.out.2 1 _ rfl).1; have x2 := (X4.out.2 2 _ rfl).1; have x3 := (X4.out.2 3 _ rfl).1; have f0 := (X4.out.2 0 _ rfl).2; have f1 := (X4.out.2 1 _ rfl).2; have f2 := (X4.out.2 2 _ rfl).2; have f3 := (X4.out.2 3 _ rfl).2)) | ((go_at_call 53; (first | refine (one_lit [0, 0, r, (D.length : Int), if (D.length : Int) + 2 < 60 then (D.length : Int) + 2 else 60] HC4.out (by omega) rfl rfl rfl (by simp) (by simp) (fun x hx => by have := at_list (r := r) (l := (D.length : Int)) hr0 (by omega) (by omega) x hx; omega)).mono ?_ | refine (one_lit [0, 0, r, (D.length : Int), (D.length : Int) + 2] HC4.out (by omega) rfl rfl rfl (by simp) (by simp) (fun x hx => by have := at_list2 (r := r) (l := (D.length : Int)) hr0 (by omega) (by omega) x hx; omega)).mono ?_); rintro e w5 ⟨p, hp, rfl, hch, ht⟩; have hp1 : 0 ≤ p ∧ p ≤ 60 := (by first | exact (at_list hr0 (by omega) (by omega) p hp).2.2 | exact (at_list2 hr0 (by omega) (by omega) p hp).2.2); clear x0 x1 x2 x3; clear f0 f1 f2 f3; have HC5 := Lib.hid hch; have X5 := Lib.hid (X4.out.turn ht X4.out.lt (by omega)); have HT5 := Lib.hid ht; clear hch ht hp; have x0 := (X5.out.2 0 _ rfl).1; have x1 := (X5.out.2 1 _ rfl).1; have x2 := (X5.out.2 2 _ rfl).1; have x3 := (X5.out.2 3 _ rfl).1; have f0 := (X5.out.2 0 _ rfl).2; have f1 := (X5.out.2 1 _ rfl).2; have f2 := (X5.out.2 2 _ rfl).2; have f3 := (X5.out.2 3 _ rfl).2)))
  all_goals
    clear n1 n2
    have s4 := HT4.out.size
    have s5 := HT5.out.size
    rw [World.size_drew] at s4
    have HT6 := Lib.hid ((HT3.out.drew.trans (HT4.out.mono (by simp; omega))).trans (HT5.out.mono (by omega)))
    have HO6 := Lib.hid ((HO3.out.drewN 1 |>.turn HT4.out (Nat.le_refl _) (by omega)).turn HT5.out (Nat.le_refl _) (by omega))
    have HP6 := Lib.hid ((HP3.out.drewN 1 |>.turn HT4.out (Nat.le_refl _) (by omega)).turn HT5.out (Nat.le_refl _) (by omega))
    have R6 := Lib.hid ((((R3.out.drew).turn HT4.out (by simp; omega) (by omega)).turn HT5.out (by omega) (by omega)).set_ (o := 1) (show w.heap.size ≠ w2.heap.size by omega) (.int .i64 p))
    clear R3 HT3 HT4 HT5 HO3 HP3 HC3 HC4 X3 X4
    have X6 := Lib.hid (X5.out.put (i := 1) (by simp) (.int .i64 p))
    have HC6 : Hid (Ch (w5.setCell ⟨w2.heap.size, 1, none⟩ (.int .i64 p)) g (P + 100 + 50 + 1 + 1)) := HC5.out.below (below_set (Below.refl w2.heap.size w5) (Nat.le_refl _) _) (by omega)
    have HT7 := Lib.hid (HT6.out.step (below_set (Below.refl w2.heap.size w5) (Nat.le_refl _) (o := 1) (.int .i64 p)) (by omega))
    have HO7 := Lib.hid (HO6.out.put_ (o := 1) (fun k hk => Nat.ne_of_lt (HBD.out k hk)) (.int .i64 p))
    have HP7 := Lib.hid (HP6.out.put_ (o := 1) (fun k hk => Nat.ne_of_lt (HBS.out k hk)) (.int .i64 p))
    clear HO6 HP6 HT6 HC5 X5
    go_wp2_with fail
    clear x0 x1 x2 x3
    clear f0 f1 f2 f3
    have hs6 : (w5.setCell ⟨w2.heap.size, 1, none⟩ (.int .i64 p)).heap.size = w5.heap.size := by simp
    rw [← hs6]
    generalize w5.setCell ⟨w2.heap.size, 1, none⟩ (.int .i64 p) = w6 at *
    refine (one_lit [0, 0, 0, 1, 2] HC6.out (by omega) rfl rfl rfl (by decide) (by decide) (by decide)).mono ?_
    rintro e w7 ⟨q, hq, rfl, hch, ht⟩
    have hq1 : 0 ≤ q ∧ q ≤ 2 := by simp at hq; omega
    have hs7 := ht.size
    have HC8 := Lib.hid hch
    have X8 := Lib.hid (X6.out.turn ht (by omega) (by omega))
    have HT8 := Lib.hid (HT7.out.trans (ht.mono (by omega)))
    have R8 := Lib.hid (R6.out.turn ht (by omega) (by omega))
    have HO8 := Lib.hid (HO7.out.turn ht (Nat.le_refl _) (by omega))
    have HP8 := Lib.hid (HP7.out.turn ht (Nat.le_refl _) (by omega))
    clear R6 hch ht hq HC6 X6 HT7 HO7 HP7
    have x0 := (X8.out.2 0 _ rfl).1; have x1 := (X8.out.2 1 _ rfl).1; have x2 := (X8.out.2 2 _ rfl).1; have x3 := (X8.out.2 3 _ rfl).1
    have f0 := (X8.out.2 0 _ rfl).2; have f1 := (X8.out.2 1 _ rfl).2; have f2 := (X8.out.2 2 _ rfl).2; have f3 := (X8.out.2 3 _ rfl).2
    have r0 := (R8.out.2 0 _ rfl).1; have r1 := (R8.out.2 1 _ rfl).1; have r2 := (R8.out.2 2 _ rfl).1; have r3 := (R8.out.2 3 _ rfl).1
    have g0 := (R8.out.2 0 _ rfl).2; have g1 := (R8.out.2 1 _ rfl).2; have g2 := (R8.out.2 2 _ rfl).2; have g3 := (R8.out.2 3 _ rfl).2
    go_wp2
    refine bodyPost_ret (v := .agg #[.slice (A) D.length c, .int .i64 (p), .slice (A') S.length c', .int .i64 (q)]) (by simp [results, Try.results84, go_sem, r0, r1, r2, r3, g0, g1, g2, g3]) rfl ?_
    have k1 : ∀ k, (Value.slice A D.length c).ownBlock = some k → k ≠ w.heap.size := fun k hk => by have := (HO8.out.lt k hk).1; omega
    have k2 : ∀ k, (Value.slice A' S.length c').ownBlock = some k → k ≠ w.heap.size := fun k hk => by have := (HP8.out.lt k hk).1; omega
    refine ⟨A, D.length, c, A', S.length, c', D, S, p, q, rfl, rfl, rfl, by omega, by omega, fun x hx => by have := HD2.out x hx; omega, fun x hx => by have := HS2.out x hx; omega, by omega, by omega, ?_, ?_, HNE.out, ?_, ?_⟩
    · refine OwnI.put_ (OwnI.put_ (OwnI.put_ (OwnI.put_ (OwnI.put_ (OwnI.mono_ HO8.out (by omega)) (fun k hk => Nat.ne_of_lt (HBD.out k hk)) _) k1 _) k1 _) k1 _) k1 _
    · refine OwnI.put_ (OwnI.put_ (OwnI.put_ (OwnI.put_ (OwnI.put_ (OwnI.mono_ HP8.out (by omega)) (fun k hk => Nat.ne_of_lt (HBS.out k hk)) _) k2 _) k2 _) k2 _) k2 _
    · refine Ch.more (Ch.below HC8.out (B := w.heap.size) ?_ (by omega)) (by omega)
      (repeat (with_reducible refine below_set ?_ (by omega) _))
      exact Below.refl _ _
    · refine HT8.out.step (C := w.heap.size) ?_ (by omega)
      (repeat (with_reducible refine below_set ?_ (by omega) _))
      exact Below.refl _ _
end
section
open Go.ChangeShapes Go.WideShapes Go.ChangeAt Go.RowKit
set_option linter.unusedSimpArgs false
set_option linter.unusedVariables false
set_option maxRecDepth 100000

theorem fullGo_keep {D S : List Int} {z : Int} {N : Nat} (hz : 1 ≤ z) : ∀ (f : Nat) (p : Int) (a : Nat) (R out : List Int), validD D p S (a : Int) = true → a + f ≤ 1000 →
    validD D (fullGo D S z N f p a R out).p S ((fullGo D S z N f p a R out).a : Int) = true ∧ (fullGo D S z N f p a R out).r.length + (D.length - (fullGo D S z N f p a R out).p.toNat) ≤ R.length + (D.length - p.toNat) ∧ (fullGo D S z N f p a R out).a ≤ a + f := by
  intro f
  induction f with
  | zero => intro p a R out hv ha; exact ⟨hv, Nat.le_refl _, Nat.le_refl _⟩
  | succ f ih =>
    intro p a R out hv ha
    obtain ⟨h1, h2, _, h4⟩ := fl_step (R := R) hv (by omega) hz
    simp only [fullGo]
    split
    · exact ⟨hv, Nat.le_refl _, by show a ≤ _; omega⟩
    · split
      · obtain ⟨i1, i2, i3⟩ := ih (flP D S z p a R) (flA a R) ((flR D S z p a R).drop (min (N - out.length) (flR D S z p a R).length)) (out ++ (flR D S z p a R).take (min (N - out.length) (flR D S z p a R).length)) h1 (by omega)
        refine ⟨i1, ?_, by omega⟩
        rw [List.length_drop] at i2
        omega
      · exact ⟨h1, h2, by show flA a R ≤ _; omega⟩
/-- A reader, drawn: its device lies ahead of its row. -/
def RdrDraw (K g P : Nat) (w : World) (e : Ending) (w' : World) : Prop :=
  ∃ A n c A' n' c' A2 n2 c2 D S R p q z M, e = .returned (.agg #[.slice (A) n c, .int .i64 (p), .slice (A') n' c', .int .i64 (q), .slice (A2) n2 c2, .int .i64 (z)]) ∧ (n ≤ c ∧ n' ≤ c') ∧ (n ≤ 61 ∧ n' ≤ 7 ∧ n2 ≤ K) ∧ (-1 ≤ p ∧ p ≤ (K : Int)) ∧ (-1 ≤ q ∧ q ≤ 1001) ∧ (0 ≤ z ∧ z ≤ 17) ∧
    w.heap.size ≤ M ∧ M ≤ w'.heap.size ∧ Ints w' w.heap.size M A n D ∧ Ints w' w.heap.size M A' n' S ∧ RowI w' M w'.heap.size A2 n2 c2 R ∧ Ch w' g P ∧ Turn w.heap.size g w w'
set_option maxHeartbeats 8000000 in
theorem goodReaderOf_any {g P : Nat} {w : World} (h : Ch w g P) (hP : P ≤ 500000) : Calls Try.prog 67 #[.pointer (some ⟨g, 0, none⟩)] w (RdrDraw 60 g (P + 300) w) := by
  have hg := h.lt
  have HCH := Lib.hid (Ch.alloc h (.cells #[.slice none 0 0, .int .i64 0, .slice none 0 0, .int .i64 0, .slice none 0 0, .int .i64 0] 27))
  have R0 := Lib.hid (Box.new w 27 [.slice none 0 0, .int .i64 0, .slice none 0 0, .int .i64 0, .slice none 0 0, .int .i64 0])
  have T0 : Hid (Turn w.heap.size g w (w.alloc (.cells #[.slice none 0 0, .int .i64 0, .slice none 0 0, .int .i64 0, .slice none 0 0, .int .i64 0] 27))) := Turn.of_below (Below.alloc (Below.refl _ _) (Nat.le_refl _) _) (Nat.le_refl _)
  have s0 : w.heap.size + 1 ≤ (w.alloc (.cells #[.slice none 0 0, .int .i64 0, .slice none 0 0, .int .i64 0, .slice none 0 0, .int .i64 0] 27)).heap.size := by simp
  clear h
  go_enter Try.func67, Try.ntmps67
  go_wp2_with fail
  generalize w.alloc (.cells #[.slice none 0 0, .int .i64 0, .slice none 0 0, .int .i64 0, .slice none 0 0, .int .i64 0] 27) = w0 at *
  refine (goodDevice_q HCH.out (by omega)).mono ?_
  rintro e w1 ⟨A, n, c, A', n', c', D, S, p, q, rfl, hn, hn', hn1, hn2, hD, hS, hp, hq, hown, hown', _, hch, ht⟩
  obtain ⟨A1, c1, e1, hc, hI⟩ := hown.ints (fun x hx => by have := hD x hx; unfold okInt; omega)
  injection e1 with e1 _ e3
  subst e1 e3
  obtain ⟨A1, c1, e1, hc', hI'⟩ := hown'.ints (fun x hx => by have := hS x hx; unfold okInt; omega)
  injection e1 with e1 _ e3
  subst e1 e3
  have s1 := ht.size
  have D1 := Lib.hid hI; have S1 := Lib.hid hI'; have HC1 := Lib.hid hch
  have R1 := Lib.hid (R0.out.turn ht (by omega) (by omega))
  have T1 := Lib.hid (T0.out.trans (ht.mono (by omega)))
  clear hown hown' hch ht hD hS hI hI' HCH R0 T0 hn hn'
  go_wp2_with fail
  refine (one_lit [4, 3, 5, 8, 1, 16] HC1.out (by omega) rfl rfl rfl (by decide) (by decide) (by decide)).mono ?_
  rintro e w2 ⟨z, hz, rfl, hch, ht⟩
  have hz2 : 1 ≤ z ∧ z ≤ 16 := by simp at hz; omega
  have s2 := ht.size
  have D2 := Lib.hid (D1.out.turn ht (Nat.le_refl _) (by omega)); have S2 := Lib.hid (S1.out.turn ht (Nat.le_refl _) (by omega)); have HC2 := Lib.hid hch
  have R2 := Lib.hid (R1.out.turn ht (by omega) (by omega))
  have T2 := Lib.hid (T1.out.trans (ht.mono (by omega)))
  clear hz hch ht D1 S1 HC1 R1 T1
  go_wp2_with fail
  refine (SNewReader_own (z := z) D2.out S2.out (by omega) (by omega) (by omega) (by omega) (by unfold okInt; omega) (by unfold okInt; omega)).mono ?_
  rintro e w3 (⟨hv, rfl, hb⟩ | ⟨hv, A3, n3, c3, A3', n3', c3', rfl, hc3, hc3', hb, hd, hd'⟩)
  · have HC3 := Lib.hid (HC2.out.below hb (by omega))
    have R3 := Lib.hid (R2.out.below hb (by omega))
    have T3 := Lib.hid (T2.out.step hb (by omega))
    have s3 := hb.size
    clear hb HC2 R2 T2 D2 S2
    have C4 := Lib.hid (Ch.alloc HC3.out (.cells #[.slice none 0 0, .int .i64 0, .slice none 0 0, .int .i64 0, .slice none 0 0, .int .i64 0] 27)); have R4 := Lib.hid (R3.out.alloc (.cells #[.slice none 0 0, .int .i64 0, .slice none 0 0, .int .i64 0, .slice none 0 0, .int .i64 0] 27))
    have T4 := Lib.hid (T3.out.step (Below.alloc (Below.refl _ w3) (Nat.le_refl _) (.cells #[.slice none 0 0, .int .i64 0, .slice none 0 0, .int .i64 0, .slice none 0 0, .int .i64 0] 27)) (by omega))
    have s4 : w3.heap.size + 1 ≤ (w3.alloc (.cells #[.slice none 0 0, .int .i64 0, .slice none 0 0, .int .i64 0, .slice none 0 0, .int .i64 0] 27)).heap.size := by simp
    clear HC3 R3 T3
    go_upto_region 2 with (fail)
    generalize w3.alloc (.cells #[.slice none 0 0, .int .i64 0, .slice none 0 0, .int .i64 0, .slice none 0 0, .int .i64 0] 27) = w4 at *
    have r0 := (R4.out.2 0 _ rfl).1; have r1 := (R4.out.2 1 _ rfl).1; have r2 := (R4.out.2 2 _ rfl).1; have r3 := (R4.out.2 3 _ rfl).1; have r4 := (R4.out.2 4 _ rfl).1; have r5 := (R4.out.2 5 _ rfl).1
    have f0 := (R4.out.2 0 _ rfl).2; have f1 := (R4.out.2 1 _ rfl).2; have f2 := (R4.out.2 2 _ rfl).2; have f3 := (R4.out.2 3 _ rfl).2; have f4 := (R4.out.2 4 _ rfl).2; have f5 := (R4.out.2 5 _ rfl).2
    go_wp2
    refine bodyPost_ret (v := .agg #[.slice none 0 0, .int .i64 0, .slice none 0 0, .int .i64 0, .slice none 0 0, .int .i64 1]) (by simp [results, Try.results67, go_sem, r0, r1, r2, r3, r4, r5, f0, f1, f2, f3, f4, f5]) rfl ?_
    refine ⟨none, 0, 0, none, 0, 0, none, 0, 0, [], [], [], 0, 0, 1, w.heap.size, rfl, ⟨Nat.le_refl _, Nat.le_refl _⟩, ⟨by omega, by omega, by omega⟩, by omega, by omega, by omega, Nat.le_refl _, ?_, (Ints.nil _ _ _ 0 _).1, (Ints.nil _ _ _ 0 _).1, RowI.nil _ _ _, ?_, ?_⟩
    · simp; omega
    · refine Ch.more (Ch.below C4.out (B := w.heap.size) ?_ hg) (by omega)
      (repeat (with_reducible refine below_set ?_ (by omega) _))
      exact Below.refl _ _
    · refine T4.out.step (C := w.heap.size) ?_ (Nat.le_refl _)
      (repeat (with_reducible refine below_set ?_ (by omega) _))
      exact Below.refl _ _
  · obtain ⟨hvd, hz3, _, _⟩ := validR_iff.1 hv
    obtain ⟨hbD, _, _, hp3, hq3⟩ := validD_iff.1 hvd
    have hD60 := bytesB_le hbD
    obtain ⟨a, rfl⟩ := Int.eq_ofNat_of_zero_le hq.1
    have s3 := hb.size
    have X4 := Lib.hid (Box.new w3 27 [.slice (A3) n3 c3, .int .i64 (p), .slice (A3') n3' c3', .int .i64 ((a : Int)), .slice (none) 0 0, .int .i64 (z)])
    have D4 := Lib.hid (hd.alloc (Nat.le_refl _) (.cells #[.slice (A3) n3 c3, .int .i64 (p), .slice (A3') n3' c3', .int .i64 ((a : Int)), .slice (none) 0 0, .int .i64 (z)] 27)); have S4 := Lib.hid (hd'.alloc (Nat.le_refl _) (.cells #[.slice (A3) n3 c3, .int .i64 (p), .slice (A3') n3' c3', .int .i64 ((a : Int)), .slice (none) 0 0, .int .i64 (z)] 27))
    have HC4 := Lib.hid (Ch.alloc (HC2.out.below hb (by omega)) (.cells #[.slice (A3) n3 c3, .int .i64 (p), .slice (A3') n3' c3', .int .i64 ((a : Int)), .slice (none) 0 0, .int .i64 (z)] 27))
    have R4 := Lib.hid ((R2.out.below hb (by omega)).alloc (.cells #[.slice (A3) n3 c3, .int .i64 (p), .slice (A3') n3' c3', .int .i64 ((a : Int)), .slice (none) 0 0, .int .i64 (z)] 27))
    have T4 := Lib.hid ((T2.out.step hb (by omega)).step (Below.alloc (Below.refl _ w3) (Nat.le_refl _) (.cells #[.slice (A3) n3 c3, .int .i64 (p), .slice (A3') n3' c3', .int .i64 ((a : Int)), .slice (none) 0 0, .int .i64 (z)] 27)) (by omega))
    have s4 : w3.heap.size + 1 ≤ (w3.alloc (.cells #[.slice (A3) n3 c3, .int .i64 (p), .slice (A3') n3' c3', .int .i64 ((a : Int)), .slice (none) 0 0, .int .i64 (z)] 27)).heap.size := by simp
    have HV4 := Lib.hid hvd
    have hn3 : n3 ≤ 61 := by have := hd.len; omega
    have hn3' : n3' ≤ 7 := by have h1 := hd'.len; have h2 := S2.out.len; omega
    clear hb hd hd' hv hvd hbD HC2 R2 T2 D2 S2
    go_wp2_with fail
    generalize w3.alloc (.cells #[.slice (A3) n3 c3, .int .i64 (p), .slice (A3') n3' c3', .int .i64 ((a : Int)), .slice (none) 0 0, .int .i64 (z)] 27) = w4 at *
    refine (pick_any HC4.out (by omega) (by decide)).mono ?_
    rintro e w5 ⟨r, rfl, ⟨hr0, hr1, _⟩, hch, ht⟩
    have hr2 := hr1 (by decide)
    obtain ⟨N, rfl⟩ := Int.eq_ofNat_of_zero_le hr0
    have s5 := ht.size
    have X5 := Lib.hid (X4.out.turn ht (by omega) (by omega)); have D5 := Lib.hid (D4.out.turn ht (by omega) (by omega)); have S5 := Lib.hid (S4.out.turn ht (by omega) (by omega))
    have HC5 := Lib.hid hch; have R5 := Lib.hid (R4.out.turn ht (by omega) (by omega)); have T5 := Lib.hid (T4.out.trans (ht.mono (by omega)))
    clear hr0 hr1 hch ht X4 D4 S4 HC4 R4 T4
    go_wp2
    go_loopw [5] (fun i wr => ∃ (j a' : Nat) (p' : Int) (R' : List Int) (A5 : Option Addr) (n5 c5 : Nat), i = .int .i64 ((j : Nat) : Int) ∧ j ≤ 2 ∧ a' + 62 * j ≤ 130 ∧ R'.length + (D.length - p'.toNat) ≤ 60 ∧ w3.heap.size + 1 ≤ wr.heap.size ∧ Hid (Box wr w3.heap.size [.slice (A3) n3 c3, .int .i64 (p'), .slice (A3') n3' c3', .int .i64 ((a' : Int)), .slice (A5) n5 c5, .int .i64 (z)]) ∧ Hid (Box wr w.heap.size [.slice none 0 0, .int .i64 0, .slice none 0 0, .int .i64 0, .slice none 0 0, .int .i64 0]) ∧ Hid (Ints wr w2.heap.size w3.heap.size A3 n3 D) ∧ Hid (Ints wr w2.heap.size w3.heap.size A3' n3' S) ∧ Hid (RowI wr (w3.heap.size + 1) wr.heap.size A5 n5 c5 R') ∧ Hid (validD D p' S (a' : Int) = true) ∧ Hid (Ch wr g (P + 205 + (2 - j))) ∧ Hid (Turn w.heap.size g w wr)) (fun i _ => (intOf i).toNat)
    case atStart => exact ⟨N, a, p, [], none, 0, 0, rfl, by omega, by omega, by simp; omega, by omega, X5, R5, D5, S5, RowI.nil _ _ _, HV4, HC5.out.more (by omega), T5⟩
    case round =>
      clear X5 R5 D5 S5 HV4 HC5 T5
      obtain ⟨j, a', p', R', A5, n5, c5, rfl, hj, ha', hK, hsz, X6, R6, D6, S6, B6, V6, C6, T6⟩ := hrel
      have hn5 : n5 ≤ 60 := by have := B6.out.len; omega
      have x0 := (X6.out.2 0 _ rfl).1; have x1 := (X6.out.2 1 _ rfl).1; have x2 := (X6.out.2 2 _ rfl).1; have x3 := (X6.out.2 3 _ rfl).1; have x4 := (X6.out.2 4 _ rfl).1; have x5 := (X6.out.2 5 _ rfl).1
      have f0 := (X6.out.2 0 _ rfl).2; have f1 := (X6.out.2 1 _ rfl).2; have f2 := (X6.out.2 2 _ rfl).2; have f3 := (X6.out.2 3 _ rfl).2; have f4 := (X6.out.2 4 _ rfl).2; have f5 := (X6.out.2 5 _ rfl).2
      by_cases hlt : (0 : Int) < (j : Int)
      · go_wp2_with fail
        go_region_law (first | (go_simp; go_at_call 68; refine (pick_any (m := 5) (w := wr.drew) C6.out (by omega) (by decide)).mono ?_; rintro e w7 ⟨r, rfl, ⟨hr0, hr1, _⟩, hch, ht⟩; have hr2 := hr1 (by decide); obtain ⟨k, rfl⟩ := Int.eq_ofNat_of_zero_le hr0; have s7 := ht.size; rw [World.size_drew] at s7; have X7 := Lib.hid (X6.out.drew.turn ht (by simp; omega) (by omega)); have R7 := Lib.hid (R6.out.drew.turn ht (by simp; omega) (by omega)); have D7 := Lib.hid (D6.out.drew.turn ht (by simp; omega) (by omega)); have S7 := Lib.hid (S6.out.drew.turn ht (by simp; omega) (by omega)); have B7 := Lib.hid (B6.out.drew.turn ht (by simp) (by omega)); have T7 := Lib.hid (T6.out.drew.trans (ht.mono (by simp; omega))); have C7 := Lib.hid hch; clear hch ht hr0 hr1; clear x0 x1 x2 x3 x4 x5; clear f0 f1 f2 f3 f4 f5; have x0 := (X7.out.2 0 _ rfl).1; have x1 := (X7.out.2 1 _ rfl).1; have x2 := (X7.out.2 2 _ rfl).1; have x3 := (X7.out.2 3 _ rfl).1; have x4 := (X7.out.2 4 _ rfl).1; have x5 := (X7.out.2 5 _ rfl).1; have f0 := (X7.out.2 0 _ rfl).2; have f1 := (X7.out.2 1 _ rfl).2; have f2 := (X7.out.2 2 _ rfl).2; have f3 := (X7.out.2 3 _ rfl).2; have f4 := (X7.out.2 4 _ rfl).2; have f5 := (X7.out.2 5 _ rfl).2) | (go_simp; go_at_call 52; (with_reducible refine (sReadFull0_own (N := k) D7.out S7.out B7.out (by omega) (by omega) (by omega) hc3 B7.out.cap V6.out (by omega) hz2.1 (by omega) hK (by omega)).mono ?_); rintro e w8 ⟨Al, nl, cl, A6, n6, c6, M6, C6', rfl, _, hc6, hb, hrow, hC6, hor, _, _⟩; have s8 := hb.size; have HB8 := Lib.hid hb; have B8 := Lib.hid hrow; have X8 := Lib.hid (X7.out.below hb (by omega)); clear hb hrow; clear x0 x1 x2 x3 x4 x5; clear f0 f1 f2 f3 f4 f5; have x0 := (X8.out.2 0 _ rfl).1; have x1 := (X8.out.2 1 _ rfl).1; have x2 := (X8.out.2 2 _ rfl).1; have x3 := (X8.out.2 3 _ rfl).1; have x4 := (X8.out.2 4 _ rfl).1; have x5 := (X8.out.2 5 _ rfl).1; have f0 := (X8.out.2 0 _ rfl).2; have f1 := (X8.out.2 1 _ rfl).2; have f2 := (X8.out.2 2 _ rfl).2; have f3 := (X8.out.2 3 _ rfl).2; have f4 := (X8.out.2 4 _ rfl).2; have f5 := (X8.out.2 5 _ rfl).2))
        all_goals
          obtain ⟨k1, k2, k3⟩ := fullGo_keep (N := k) hz2.1 62 p' a' R' [] V6.out (by omega)
          generalize fullGo D S z k 62 p' a' R' [] = T at *
          have hfar : w3.heap.size < M6 ∨ C6' ≤ w3.heap.size := by
            rcases hor with ⟨_, _, rfl, rfl⟩ | h
            · exact .inl (by omega)
            · exact .inl (by omega)
          have hM6 : w3.heap.size + 1 ≤ M6 := by
            rcases hor with ⟨_, _, rfl, rfl⟩ | h
            · exact Nat.le_refl _
            · omega
          have K1 := Lib.hid k1
          clear k1 hor x0 x1 x2 x3 x4 x5 f0 f1 f2 f3 f4 f5
          go_wp2
          go_roundw
          case rel =>
            refine ⟨j - 1, T.a, T.p, T.r, A6, n6, c6, by go_num, by omega, by omega, by omega, ?_, ?_, ?_, ?_, ?_, ?_, K1, ?_, ?_⟩
            · simp; omega
            · show Box _ _ _
              have hx := (((((X8.out.put (i := 0) (by simp) (.slice A3 n3 c3)).put (i := 1) (by simp) (.int .i64 T.p)).put (i := 2) (by simp) (.slice A3' n3' c3')).put (i := 3) (by simp) (.int .i64 (T.a : Int))).put (i := 4) (by simp) (.slice A6 n6 c6)).put (i := 5) (by simp) (.int .i64 z)
              simpa using hx
            · show Box _ _ _
              (repeat (with_reducible refine Box.set_ ?_ (by omega) _))
              exact (R7.out.below HB8.out (by omega))
            · show Ints _ _ _ _ _ _
              (repeat (with_reducible refine Ints.set_ ?_ (by omega) _))
              exact D7.out.below HB8.out (by omega)
            · show Ints _ _ _ _ _ _
              (repeat (with_reducible refine Ints.set_ ?_ (by omega) _))
              exact S7.out.below HB8.out (by omega)
            · show RowI _ _ _ _ _ _ _
              simp only [World.size_setCell, World.size_drew]
              refine RowI.more (lo := M6) (hi := w8.heap.size) ?_ hM6 (Nat.le_refl _)
              (repeat (with_reducible refine RowI.set_ ?_ (by omega) _))
              exact B8.out.more (Nat.le_refl _) hC6
            · refine Ch.more (Ch.below (C7.out.below HB8.out (by omega)) (B := w.heap.size) ?_ hg) (by omega)
              (repeat (with_reducible refine below_set ?_ (by omega) _))
              exact Below.refl _ _
            · refine (T7.out.step HB8.out (by omega)).step (C := w.heap.size) ?_ (Nat.le_refl _)
              (repeat (with_reducible refine below_set ?_ (by omega) _))
              exact Below.refl _ _
          case measure => simp [intOf]; omega
      · have r0 := (R6.out.2 0 _ rfl).1; have r1 := (R6.out.2 1 _ rfl).1; have r2 := (R6.out.2 2 _ rfl).1; have r3 := (R6.out.2 3 _ rfl).1; have r4 := (R6.out.2 4 _ rfl).1; have r5 := (R6.out.2 5 _ rfl).1
        have y0 := (R6.out.2 0 _ rfl).2; have y1 := (R6.out.2 1 _ rfl).2; have y2 := (R6.out.2 2 _ rfl).2; have y3 := (R6.out.2 3 _ rfl).2; have y4 := (R6.out.2 4 _ rfl).2; have y5 := (R6.out.2 5 _ rfl).2
        clear f0 f1 f2 f3 f4 f5
        go_wp2
        refine bodyPost_ret (v := .agg #[.slice (A3) n3 c3, .int .i64 (p'), .slice (A3') n3' c3', .int .i64 ((a' : Int)), .slice (A5) n5 c5, .int .i64 (z)]) (by simp [results, Try.results67, go_sem, r0, r1, r2, r3, r4, r5, y0, y1, y2, y3, y4, y5]) rfl ?_
        obtain ⟨_, _, _, hp6, hq6⟩ := validD_iff.1 V6.out
        refine ⟨A3, n3, c3, A3', n3', c3', A5, n5, c5, D, S, R', p', (a' : Int), z, w3.heap.size, rfl, ⟨hc3, hc3'⟩, ⟨by omega, by omega, by omega⟩, by omega, by omega, by omega, by omega, ?_, ?_, ?_, ?_, ?_, ?_⟩
        · simp; omega
        · refine Ints.more (lo := w2.heap.size) (hi := w3.heap.size) ?_ (by omega) (Nat.le_refl _)
          (repeat (with_reducible refine Ints.set_ ?_ (by omega) _))
          exact D6.out
        · refine Ints.more (lo := w2.heap.size) (hi := w3.heap.size) ?_ (by omega) (Nat.le_refl _)
          (repeat (with_reducible refine Ints.set_ ?_ (by omega) _))
          exact S6.out
        · simp only [World.size_setCell]
          refine RowI.more (lo := w3.heap.size + 1) (hi := wr.heap.size) ?_ (by omega) (Nat.le_refl _)
          (repeat (with_reducible refine RowI.set_ ?_ (by omega) _))
          exact B6.out
        · refine Ch.more (Ch.below C6.out (B := w.heap.size) ?_ hg) (by omega)
          (repeat (with_reducible refine below_set ?_ (by omega) _))
          exact Below.refl _ _
        · refine T6.out.step (C := w.heap.size) ?_ (Nat.le_refl _)
          (repeat (with_reducible refine below_set ?_ (by omega) _))
          exact Below.refl _ _
end
end Go.Proofs.Ytmjmplfhedknhaa
