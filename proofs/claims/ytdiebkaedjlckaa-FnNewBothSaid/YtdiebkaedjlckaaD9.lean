/- Contracts of the drawing functions: a device that may be invalid. -/
import Derived.Test.YtdiebkaedjlckaaD8
import Derived.Deep.RegionLaw
import Derived.Deep.AppendLies
namespace Go.Proofs.Ytdiebkaedjlckaa
open Go.ChangeShapes Go.WideShapes Go.ChangeAt Go.RowKit
set_option linter.unusedSimpArgs false
set_option linter.unusedVariables false

set_option maxHeartbeats 2000000 in
theorem someDevice_any {g P : Nat} {w : World} (h : Ch w g P) (hP : P ≤ 500000) :
    Calls Try.prog 69 #[.pointer (some ⟨g, 0, none⟩)] w (DevDraw 7 g (P + 500) w) := by
  have hg := h.lt
  have HCH := Lib.hid (h.alloc (.cells #[.slice none 0 0, .int .i64 0, .slice none 0 0, .int .i64 0] 25))
  have R0 := Lib.hid (Box.new w 25 [.slice none 0 0, .int .i64 0, .slice none 0 0, .int .i64 0])
  clear h
  go_enter Try.func69, Try.ntmps69
  go_wp2_with fail
  refine (goodDevice_any HCH.out (by omega)).mono ?_
  rintro e w1 ⟨A, n, c, A', n', c', D, S, p, q, rfl, hn, hn', hn1, hn2, hD, hS, hp, hq, hown, hown', hne, hch, ht⟩
  subst hn hn'
  rw [World.size_alloc] at hown hown' ht
  have HD := Lib.hid hD
  have HS := Lib.hid hS
  have HNE := Lib.hid hne
  have R1 := Lib.hid (R0.out.turn ht (by omega) (by omega))
  have hs1 := ht.size
  rw [World.size_alloc] at hs1
  have HT1 := Lib.hid ((Turn.of_below (B := w.heap.size) (Below.alloc (Below.refl _ w) (Nat.le_refl _) (.cells #[.slice none 0 0, .int .i64 0, .slice none 0 0, .int .i64 0] 25)) (Nat.le_refl _)).trans (ht.mono (by omega)))
  have HC1 := Lib.hid hch
  have HO1 := Lib.hid hown
  have HP1 := Lib.hid hown'
  have HC2 := Lib.hid (hch.alloc (.cells #[.slice (A) D.length c, .int .i64 (p), .slice (A') S.length c', .int .i64 (q)] 25))
  have X2 := Lib.hid (Box.new w1 25 [.slice (A) D.length c, .int .i64 (p), .slice (A') S.length c', .int .i64 (q)])
  clear hD hS hne hch hown hown' ht HCH R0
  -- MK9
  have HBD := Lib.hid fun k hk => (HO1.out.lt k hk).2
  have HBS := Lib.hid fun k hk => (HP1.out.lt k hk).2
  have HO2 := Lib.hid (HO1.out.alloc (.cells #[.slice (A) D.length c, .int .i64 (p), .slice (A') S.length c', .int .i64 (q)] 25))
  have HP2 := Lib.hid (HP1.out.alloc (.cells #[.slice (A) D.length c, .int .i64 (p), .slice (A') S.length c', .int .i64 (q)] 25))
  have R2 := Lib.hid (R1.out.alloc (.cells #[.slice (A) D.length c, .int .i64 (p), .slice (A') S.length c', .int .i64 (q)] 25))
  have HT2 := Lib.hid (HT1.out.step (Below.alloc (Below.refl _ _) (Nat.le_refl _) (.cells #[.slice (A) D.length c, .int .i64 (p), .slice (A') S.length c', .int .i64 (q)] 25)) (by omega))
  clear HO1 HP1 R1 HT1 HC1
  go_wp2_with fail
  refine (pick_any HC2.out (by omega) (by decide)).mono ?_
  rintro e w3 ⟨t, rfl, _, hch, ht⟩
  have hs3 := ht.size
  rw [World.size_alloc] at hs3
  have HC3 := Lib.hid hch
  have X3 := Lib.hid (X2.out.turn ht (by simp) (by omega))
  have R3 := Lib.hid (R2.out.turn ht (by simp; omega) (by omega))
  have HT3 := Lib.hid (HT2.out.trans (ht.mono (by simp; omega)))
  have HO3 := Lib.hid (HO2.out.turn ht (Nat.le_refl _) (by omega))
  have HP3 := Lib.hid (HP2.out.turn ht (Nat.le_refl _) (by omega))
  clear hch ht HC2 X2 R2 HT2 HO2 HP2
  by_cases h0 : t = 0
  · subst h0
    go_wp2_with fail
    refine (one_lit [-1, 61] HC3.out (by omega) rfl rfl rfl (by decide) (by decide) (by decide)).mono ?_
    rintro e w4 ⟨y, hy, rfl, hch, ht⟩
    have hy1 : -1 ≤ y ∧ y ≤ 61 := by simp at hy; omega
    have hs4 := ht.size
    have HC4 := Lib.hid hch
    have X4 := Lib.hid (X3.out.turn ht (by omega) (by omega))
    have R4 := Lib.hid (R3.out.turn ht (by omega) (by omega))
    have HT4 := Lib.hid (HT3.out.trans (ht.mono (by omega)))
    have HO4 := Lib.hid (HO3.out.turn ht (Nat.le_refl _) (by omega))
    have HP4 := Lib.hid (HP3.out.turn ht (Nat.le_refl _) (by omega))
    clear hch ht hy HC3 X3 R3 HT3 HO3 HP3
    have x0 := (X4.out.2 0 _ rfl).1; have x1 := (X4.out.2 1 _ rfl).1; have x2 := (X4.out.2 2 _ rfl).1; have x3 := (X4.out.2 3 _ rfl).1
    have f0 := (X4.out.2 0 _ rfl).2; have f1 := (X4.out.2 1 _ rfl).2; have f2 := (X4.out.2 2 _ rfl).2; have f3 := (X4.out.2 3 _ rfl).2
    have r0 := (R4.out.2 0 _ rfl).1; have r1 := (R4.out.2 1 _ rfl).1; have r2 := (R4.out.2 2 _ rfl).1; have r3 := (R4.out.2 3 _ rfl).1
    have g0 := (R4.out.2 0 _ rfl).2; have g1 := (R4.out.2 1 _ rfl).2; have g2 := (R4.out.2 2 _ rfl).2; have g3 := (R4.out.2 3 _ rfl).2
    go_wp2
    refine bodyPost_ret (v := .agg #[.slice (A) D.length c, .int .i64 (y), .slice (A') S.length c', .int .i64 (q)]) (by simp [results, Try.results69, go_sem, r0, r1, r2, r3, g0, g1, g2, g3]) rfl ?_
    have k1 : ∀ k, (Value.slice A D.length c).ownBlock = some k → k ≠ w.heap.size := fun k hk => by have := (HO4.out.lt k hk).1; omega
    have k2 : ∀ k, (Value.slice A' S.length c').ownBlock = some k → k ≠ w.heap.size := fun k hk => by have := (HP4.out.lt k hk).1; omega
    refine ⟨A, D.length, c, A', S.length, c', D, S, y, q, rfl, by simp [*], by simp [*], by omega, by omega, HD.out, HS.out, by omega, by omega, ?_, ?_, HNE.out, ?_, ?_⟩
    · exact (OwnI.put_ (OwnI.put_ (OwnI.put_ (OwnI.put_ (OwnI.put_ (OwnI.mono_ HO4.out (by omega)) (fun k hk => Nat.ne_of_lt (HBD.out k hk)) _) k1 _) k1 _) k1 _) k1 _)
    · exact (OwnI.put_ (OwnI.put_ (OwnI.put_ (OwnI.put_ (OwnI.put_ (OwnI.mono_ HP4.out (by omega)) (fun k hk => Nat.ne_of_lt (HBS.out k hk)) _) k2 _) k2 _) k2 _) k2 _)
    · refine Ch.more (Ch.below HC4.out (B := w.heap.size) ?_ (by omega)) (by omega)
      (repeat (with_reducible refine below_set ?_ (by omega) _))
      exact Below.refl _ _
    · refine HT4.out.step (C := w.heap.size) ?_ (by omega)
      (repeat (with_reducible refine below_set ?_ (by omega) _))
      exact Below.refl _ _
  · by_cases h1 : t = 1
    · subst h1
      go_wp2_with fail
      refine (one_lit [-1, 1000, 1001] HC3.out (by omega) rfl rfl rfl (by decide) (by decide) (by decide)).mono ?_
      rintro e w4 ⟨y, hy, rfl, hch, ht⟩
      have hy1 : -1 ≤ y ∧ y ≤ 1001 := by simp at hy; omega
      have hs4 := ht.size
      have HC4 := Lib.hid hch
      have X4 := Lib.hid (X3.out.turn ht (by omega) (by omega))
      have R4 := Lib.hid (R3.out.turn ht (by omega) (by omega))
      have HT4 := Lib.hid (HT3.out.trans (ht.mono (by omega)))
      have HO4 := Lib.hid (HO3.out.turn ht (Nat.le_refl _) (by omega))
      have HP4 := Lib.hid (HP3.out.turn ht (Nat.le_refl _) (by omega))
      clear hch ht hy HC3 X3 R3 HT3 HO3 HP3
      have x0 := (X4.out.2 0 _ rfl).1; have x1 := (X4.out.2 1 _ rfl).1; have x2 := (X4.out.2 2 _ rfl).1; have x3 := (X4.out.2 3 _ rfl).1
      have f0 := (X4.out.2 0 _ rfl).2; have f1 := (X4.out.2 1 _ rfl).2; have f2 := (X4.out.2 2 _ rfl).2; have f3 := (X4.out.2 3 _ rfl).2
      have r0 := (R4.out.2 0 _ rfl).1; have r1 := (R4.out.2 1 _ rfl).1; have r2 := (R4.out.2 2 _ rfl).1; have r3 := (R4.out.2 3 _ rfl).1
      have g0 := (R4.out.2 0 _ rfl).2; have g1 := (R4.out.2 1 _ rfl).2; have g2 := (R4.out.2 2 _ rfl).2; have g3 := (R4.out.2 3 _ rfl).2
      go_wp2
      refine bodyPost_ret (v := .agg #[.slice (A) D.length c, .int .i64 (p), .slice (A') S.length c', .int .i64 (y)]) (by simp [results, Try.results69, go_sem, r0, r1, r2, r3, g0, g1, g2, g3]) rfl ?_
      have k1 : ∀ k, (Value.slice A D.length c).ownBlock = some k → k ≠ w.heap.size := fun k hk => by have := (HO4.out.lt k hk).1; omega
      have k2 : ∀ k, (Value.slice A' S.length c').ownBlock = some k → k ≠ w.heap.size := fun k hk => by have := (HP4.out.lt k hk).1; omega
      refine ⟨A, D.length, c, A', S.length, c', D, S, p, y, rfl, by simp [*], by simp [*], by omega, by omega, HD.out, HS.out, by omega, by omega, ?_, ?_, HNE.out, ?_, ?_⟩
      · exact (OwnI.put_ (OwnI.put_ (OwnI.put_ (OwnI.put_ (OwnI.put_ (OwnI.mono_ HO4.out (by omega)) (fun k hk => Nat.ne_of_lt (HBD.out k hk)) _) k1 _) k1 _) k1 _) k1 _)
      · exact (OwnI.put_ (OwnI.put_ (OwnI.put_ (OwnI.put_ (OwnI.put_ (OwnI.mono_ HP4.out (by omega)) (fun k hk => Nat.ne_of_lt (HBS.out k hk)) _) k2 _) k2 _) k2 _) k2 _)
      · refine Ch.more (Ch.below HC4.out (B := w.heap.size) ?_ (by omega)) (by omega)
        (repeat (with_reducible refine below_set ?_ (by omega) _))
        exact Below.refl _ _
      · refine HT4.out.step (C := w.heap.size) ?_ (by omega)
        (repeat (with_reducible refine below_set ?_ (by omega) _))
        exact Below.refl _ _
    · by_cases h2 : t = 2
      · subst h2
        go_wp2_with fail
        refine (anyBytes_any HC3.out (by omega)).mono ?_
        rintro e w4 ⟨v, D4, rfl, ⟨hL, hB⟩, hown, hch, ht⟩
        obtain ⟨A4, c4, rfl, _, _⟩ := hown.ints (fun x hx => by have := hB x hx; unfold okInt; omega)
        have hs4 := ht.size
        have HC4 := Lib.hid hch
        have X4 := Lib.hid (X3.out.turn ht (by omega) (by omega))
        have R4 := Lib.hid (R3.out.turn ht (by omega) (by omega))
        have HT4 := Lib.hid (HT3.out.trans (ht.mono (by omega)))
        have HP4 := Lib.hid (HP3.out.turn ht (Nat.le_refl _) (by omega))
        have HNE4 : Hid ((Value.slice A4 D4.length c4).ownBlock = none ∨ (Value.slice A4 D4.length c4).ownBlock ≠ (Value.slice A' S.length c').ownBlock) := by
          show _ ∨ _
          cases e : (Value.slice A4 D4.length c4).ownBlock with
          | none => exact .inl rfl
          | some k =>
            refine .inr fun hk => ?_
            have h1 := (hown.lt k e).1
            have h2 := HBS.out k hk.symm
            omega
        have HBD4 : Hid (∀ k, (Value.slice A4 D4.length c4).ownBlock = some k → k ≠ w1.heap.size) := fun k hk => by have := (hown.lt k hk).1; omega
        have HO4 := Lib.hid hown
        have HD4 := Lib.hid hB
        clear hown hB hch ht HC3 X3 R3 HT3 HP3
        have x0 := (X4.out.2 0 _ rfl).1; have x1 := (X4.out.2 1 _ rfl).1; have x2 := (X4.out.2 2 _ rfl).1; have x3 := (X4.out.2 3 _ rfl).1
        have f0 := (X4.out.2 0 _ rfl).2; have f1 := (X4.out.2 1 _ rfl).2; have f2 := (X4.out.2 2 _ rfl).2; have f3 := (X4.out.2 3 _ rfl).2
        have r0 := (R4.out.2 0 _ rfl).1; have r1 := (R4.out.2 1 _ rfl).1; have r2 := (R4.out.2 2 _ rfl).1; have r3 := (R4.out.2 3 _ rfl).1
        have g0 := (R4.out.2 0 _ rfl).2; have g1 := (R4.out.2 1 _ rfl).2; have g2 := (R4.out.2 2 _ rfl).2; have g3 := (R4.out.2 3 _ rfl).2
        go_wp2
        refine bodyPost_ret (v := .agg #[.slice (A4) D4.length c4, .int .i64 (p), .slice (A') S.length c', .int .i64 (q)]) (by simp [results, Try.results69, go_sem, r0, r1, r2, r3, g0, g1, g2, g3]) rfl ?_
        have k1 : ∀ k, (Value.slice A4 D4.length c4).ownBlock = some k → k ≠ w.heap.size := fun k hk => by have := (HO4.out.lt k hk).1; omega
        have k2 : ∀ k, (Value.slice A' S.length c').ownBlock = some k → k ≠ w.heap.size := fun k hk => by have := (HP4.out.lt k hk).1; omega
        refine ⟨A4, D4.length, c4, A', S.length, c', D4, S, p, q, rfl, by simp [*], by simp [*], by omega, by omega, HD4.out, HS.out, by omega, by omega, ?_, ?_, HNE4.out, ?_, ?_⟩
        · exact (OwnI.put_ (OwnI.put_ (OwnI.put_ (OwnI.put_ (OwnI.put_ (OwnI.mono_ HO4.out (by omega)) HBD4.out _) k1 _) k1 _) k1 _) k1 _)
        · exact (OwnI.put_ (OwnI.put_ (OwnI.put_ (OwnI.put_ (OwnI.put_ (OwnI.mono_ HP4.out (by omega)) (fun k hk => Nat.ne_of_lt (HBS.out k hk)) _) k2 _) k2 _) k2 _) k2 _)
        · refine Ch.more (Ch.below HC4.out (B := w.heap.size) ?_ (by omega)) (by omega)
          (repeat (with_reducible refine below_set ?_ (by omega) _))
          exact Below.refl _ _
        · refine HT4.out.step (C := w.heap.size) ?_ (by omega)
          (repeat (with_reducible refine below_set ?_ (by omega) _))
          exact Below.refl _ _
      · by_cases h3 : t = 3
        · subst h3
          obtain ⟨i0, hi0, hz0, hz1, hz2⟩ := info_parts infoInt
          have x0 := (X3.out.2 0 _ rfl).1; have x1 := (X3.out.2 1 _ rfl).1; have x2 := (X3.out.2 2 _ rfl).1; have x3 := (X3.out.2 3 _ rfl).1
          have f0 := (X3.out.2 0 _ rfl).2; have f1 := (X3.out.2 1 _ rfl).2; have f2 := (X3.out.2 2 _ rfl).2; have f3 := (X3.out.2 3 _ rfl).2
          have xA := ((X3.out.alloc (.cells #[.int .i64 (-2), .int .i64 61] 3)).2 2 _ rfl).1
          go_wp2_with fail
          go_region_law (first | ((go_simp; go_at_call 70; refine (one_lit (w := w3.drew) [-2, 61] HC3.out (by omega) rfl rfl rfl (by decide) (by decide) (by decide)).mono ?_; rintro e w4 ⟨y, hy, rfl, hch, ht⟩; have hy1 : -2 ≤ y ∧ y ≤ 61 := (by simp at hy; omega); have hs4 := ht.size; rw [World.size_drew] at hs4; have HC4 := Lib.hid hch; have X4 := Lib.hid (X3.out.drew.turn ht (by simp; omega) (by omega)); have R4 := Lib.hid (R3.out.drew.turn ht (by simp; omega) (by omega)); have HT4 := Lib.hid (HT3.out.drew.trans (ht.mono (by simp; omega))); have HO4 := Lib.hid ((HO3.out.drewN 1).turn ht (Nat.le_refl _) (by omega)); have HP4 := Lib.hid ((HP3.out.drewN 1).turn ht (Nat.le_refl _) (by omega)); clear hch ht hy; clear x0 x1 x2 x3; clear f0 f1 f2 f3; have x0 := (X4.out.2 0 _ rfl).1; have x1 := (X4.out.2 1 _ rfl).1; have x2 := (X4.out.2 2 _ rfl).1; have x3 := (X4.out.2 3 _ rfl).1; have f0 := (X4.out.2 0 _ rfl).2; have f1 := (X4.out.2 1 _ rfl).2; have f2 := (X4.out.2 2 _ rfl).2; have f3 := (X4.out.2 3 _ rfl).2; have xB := ((X4.out.alloc (.cells #[.int .i64 y] 3)).2 2 _ rfl).1)) | (refine step_append_lies _ rfl (.tmp 28) (.tmp 32) 23 rfl (w.heap.size + 1) 3 i0 (.int .i64 0) 1 8 Try.underlying23 hi0 hz0 hz1 hz2 rfl (by decide) (.slice A' S.length c') S.length (S.map (Value.int .i64)) rfl ((HP4.out.alloc (.cells #[.int .i64 y] 3)).drewN 1) ⟨w4.heap.size, 0, none⟩ 1 1 [.int .i64 y] rfl rfl (fun j u hu => intsCells (one_int w4 y (by omega) (by omega)) j u hu) (by simp [Value.oneCell']) (by decide) (by unfold maxLen; omega) (by omega) (by simp; omega) (w4.heap.size + 1) (by simp) ?_; intro gg cap w5 hown5 hgrow hat hlt; have X5 := Lib.hid ((X4.out.alloc (.cells #[.int .i64 y] 3)).drew.block (hgrow.block w1.heap.size (by simp; omega) (by intro hq; first | exact absurd (HBS.out _ hq) (Nat.lt_irrefl _) | exact absurd (HBS.out _ hq.symm) (Nat.lt_irrefl _))) hgrow.size); clear x0 x1 x2 x3; clear f0 f1 f2 f3; have x0 := (X5.out.2 0 _ rfl).1; have x1 := (X5.out.2 1 _ rfl).1; have x2 := (X5.out.2 2 _ rfl).1; have x3 := (X5.out.2 3 _ rfl).1; have f0 := (X5.out.2 0 _ rfl).2; have f1 := (X5.out.2 1 _ rfl).2; have f2 := (X5.out.2 2 _ rfl).2; have f3 := (X5.out.2 3 _ rfl).2))
          all_goals
            have hsA : (w4.alloc (.cells #[.int .i64 y] 3)).heap.size = w4.heap.size + 1 := by simp
            have hbg := below_grown (xs := S) (HP4.out.alloc (.cells #[.int .i64 y] 3)) hgrow (by rw [hsA]; omega)
            have hs5 := hgrow.size
            simp only [World.size_drew, World.size_alloc] at hs5
            have R5 := Lib.hid (Box.below (B := w.heap.size + 1) (R4.out.alloc (.cells #[.int .i64 y] 3)) hbg (by omega))
            have HC5 := Lib.hid (Ch.below (g := g) (HC4.out.alloc _) hbg (by omega))
            have HT5 := Lib.hid (((HT4.out.step (Below.alloc (Below.refl _ _) (Nat.le_refl _) (.cells #[.int .i64 y] 3)) (by omega))).step hbg (by omega))
            have HO5 : Hid (OwnI w5 (w.heap.size + 1) (.slice A D.length c) D.length D) := World.ownsRow.kept (HO4.out.alloc (.cells #[.int .i64 y] 3)) hgrow HNE.out
            have HP5 : Hid (OwnI w5 (w.heap.size + 1) (.slice (some ⟨gg, 0, none⟩) (S.length + 1) cap) (S.length + 1) (S ++ [y])) := by
              show OwnI _ _ _ _ _
              unfold OwnI
              rw [List.map_append]
              exact hown5
            have HGG : Hid (∀ k, (Value.slice (some ⟨gg, 0, none⟩) (S.length + 1) cap).ownBlock = some k → k ≠ w1.heap.size) := fun k hk => by
              simp [Value.ownBlock] at hk
              subst hk
              rcases hat with h | h
              · exact Nat.ne_of_lt (HBS.out _ h)
              · omega
            have HNE5 : Hid ((Value.slice A D.length c).ownBlock = none ∨ (Value.slice A D.length c).ownBlock ≠ (Value.slice (some ⟨gg, 0, none⟩) (S.length + 1) cap).ownBlock) := by
              show _ ∨ _
              rcases HNE.out with h | h
              · exact .inl h
              · refine .inr fun hk => ?_
                have hk2 : (Value.slice A D.length c).ownBlock = some gg := by rw [hk]; simp [Value.ownBlock]
                rcases hat with h3 | h3
                · exact h (hk2.trans h3.symm)
                · have := HBD.out _ hk2; omega
            have HS5 : Hid (∀ x ∈ S ++ [y], -2 ≤ x ∧ x ≤ 61) := fun x hx => by
              rcases List.mem_append.1 hx with h | h
              · exact HS.out x h
              · simp at h; subst h; exact hy1
            clear hbg hgrow hown5 hat hs5 hsA xA xB
            clear x0 x1 x2 x3
            clear f0 f1 f2 f3
            have x0 := (X5.out.2 0 _ rfl).1; have x1 := (X5.out.2 1 _ rfl).1; have x2 := (X5.out.2 2 _ rfl).1; have x3 := (X5.out.2 3 _ rfl).1
            have f0 := (X5.out.2 0 _ rfl).2; have f1 := (X5.out.2 1 _ rfl).2; have f2 := (X5.out.2 2 _ rfl).2; have f3 := (X5.out.2 3 _ rfl).2
            have r0 := (R5.out.2 0 _ rfl).1; have r1 := (R5.out.2 1 _ rfl).1; have r2 := (R5.out.2 2 _ rfl).1; have r3 := (R5.out.2 3 _ rfl).1
            have g0 := (R5.out.2 0 _ rfl).2; have g1 := (R5.out.2 1 _ rfl).2; have g2 := (R5.out.2 2 _ rfl).2; have g3 := (R5.out.2 3 _ rfl).2
            go_wp2
            refine bodyPost_ret (v := .agg #[.slice (A) D.length c, .int .i64 (p), .slice ((some ⟨gg, 0, none⟩)) (S.length + 1) cap, .int .i64 (q)]) (by simp [results, Try.results69, go_sem, r0, r1, r2, r3, g0, g1, g2, g3]) rfl ?_
            have k1 : ∀ k, (Value.slice A D.length c).ownBlock = some k → k ≠ w.heap.size := fun k hk => by have := (HO5.out.lt k hk).1; omega
            have k2 : ∀ k, (Value.slice (some ⟨gg, 0, none⟩) (S.length + 1) cap).ownBlock = some k → k ≠ w.heap.size := fun k hk => by have := (HP5.out.lt k hk).1; omega
            refine ⟨A, D.length, c, (some ⟨gg, 0, none⟩), (S.length + 1), cap, D, (S ++ [y]), p, q, rfl, by simp [*], by simp [*], by omega, by omega, HD.out, HS5.out, by omega, by omega, ?_, ?_, HNE5.out, ?_, ?_⟩
            · exact (OwnI.put_ (OwnI.put_ (OwnI.put_ (OwnI.put_ (OwnI.put_ (OwnI.mono_ HO5.out (by omega)) (fun k hk => Nat.ne_of_lt (HBD.out k hk)) _) k1 _) k1 _) k1 _) k1 _)
            · exact (OwnI.put_ (OwnI.put_ (OwnI.put_ (OwnI.put_ (OwnI.put_ (OwnI.mono_ HP5.out (by omega)) HGG.out _) k2 _) k2 _) k2 _) k2 _)
            · refine Ch.more (Ch.below HC5.out (B := w.heap.size) ?_ (by omega)) (by omega)
              (repeat (with_reducible refine below_set ?_ (by omega) _))
              exact Below.refl _ _
            · refine HT5.out.step (C := w.heap.size) ?_ (by omega)
              (repeat (with_reducible refine below_set ?_ (by omega) _))
              exact Below.refl _ _
        · have e0 : (t == 0) = false := by simp [h0]
          have e1 : (t == 1) = false := by simp [h1]
          have e2 : (t == 2) = false := by simp [h2]
          have e3 : (t == 3) = false := by simp [h3]
          have x0 := (X3.out.2 0 _ rfl).1; have x1 := (X3.out.2 1 _ rfl).1; have x2 := (X3.out.2 2 _ rfl).1; have x3 := (X3.out.2 3 _ rfl).1
          have f0 := (X3.out.2 0 _ rfl).2; have f1 := (X3.out.2 1 _ rfl).2; have f2 := (X3.out.2 2 _ rfl).2; have f3 := (X3.out.2 3 _ rfl).2
          have r0 := (R3.out.2 0 _ rfl).1; have r1 := (R3.out.2 1 _ rfl).1; have r2 := (R3.out.2 2 _ rfl).1; have r3 := (R3.out.2 3 _ rfl).1
          have g0 := (R3.out.2 0 _ rfl).2; have g1 := (R3.out.2 1 _ rfl).2; have g2 := (R3.out.2 2 _ rfl).2; have g3 := (R3.out.2 3 _ rfl).2
          go_wp2
          refine bodyPost_ret (v := .agg #[.slice (A) D.length c, .int .i64 (p), .slice (A') S.length c', .int .i64 (q)]) (by simp [results, Try.results69, go_sem, r0, r1, r2, r3, g0, g1, g2, g3]) rfl ?_
          have k1 : ∀ k, (Value.slice A D.length c).ownBlock = some k → k ≠ w.heap.size := fun k hk => by have := (HO3.out.lt k hk).1; omega
          have k2 : ∀ k, (Value.slice A' S.length c').ownBlock = some k → k ≠ w.heap.size := fun k hk => by have := (HP3.out.lt k hk).1; omega
          refine ⟨A, D.length, c, A', S.length, c', D, S, p, q, rfl, by simp [*], by simp [*], by omega, by omega, HD.out, HS.out, by omega, by omega, ?_, ?_, HNE.out, ?_, ?_⟩
          · exact (OwnI.put_ (OwnI.put_ (OwnI.put_ (OwnI.put_ (OwnI.mono_ HO3.out (by omega)) k1 _) k1 _) k1 _) k1 _)
          · exact (OwnI.put_ (OwnI.put_ (OwnI.put_ (OwnI.put_ (OwnI.mono_ HP3.out (by omega)) k2 _) k2 _) k2 _) k2 _)
          · refine Ch.more (Ch.below HC3.out (B := w.heap.size) ?_ (by omega)) (by omega)
            (repeat (with_reducible refine below_set ?_ (by omega) _))
            exact Below.refl _ _
          · refine HT3.out.step (C := w.heap.size) ?_ (by omega)
            (repeat (with_reducible refine below_set ?_ (by omega) _))
            exact Below.refl _ _
end Go.Proofs.Ytdiebkaedjlckaa
