/- Contracts of the drawing of codes' arguments. -/
import Derived.Test.YtkgjcoakeliocaaDoorD8
import Derived.Test.YtkgjcoakeliocaaDoorV7
namespace Go.Proofs.YtkgjcoakeliocaaDoor
open Go.ChangeShapes Go.WideShapes Go.ChangeAt Go.RowKit
set_option linter.unusedSimpArgs false
set_option linter.unusedVariables false
set_option maxRecDepth 100000

theorem shapeR {w : World} {base n : Nat} {v : Value} {xs : List Int} (h : OwnI w base v n xs) : ∃ A c, v = .slice A n c ∧ n ≤ c := by
  rcases h.2 with ⟨rfl, h0⟩ | ⟨g, cap, cur, rfl, _, _, hnc, _⟩
  · subst h0
    exact ⟨none, 0, rfl, Nat.le_refl _⟩
  · exact ⟨_, _, rfl, hnc⟩
set_option maxHeartbeats 8000000 in
theorem somePoints_any {g P : Nat} {w : World} (h : Ch w g P) (hP : P ≤ 900000) :
    Calls Tryd.prog 45 #[.pointer (some ⟨g, 0, none⟩)] w (RowPost g (P + 60) (fun xs => xs.length ≤ 9 ∧ ∀ x ∈ xs, -1 ≤ x ∧ x ≤ 3256) w) := by
  have hg := h.lt
  have HCH := Lib.hid (h.alloc (.cells #[] 3))
  clear h
  go_enter Tryd.func45, Tryd.ntmps45
  go_wp2_with fail
  refine (one_lit [4, 6, 3, 8, 1, 0] HCH.out (by omega) (by simp) rfl rfl (by decide) (by decide) (by decide)).mono ?_
  rintro e w1 ⟨x, hx, rfl, hch, ht⟩
  have hx2 : 0 ≤ x ∧ x ≤ 8 := by simp at hx; omega
  obtain ⟨N, rfl⟩ := Int.eq_ofNat_of_zero_le hx2.1
  have HC := Lib.hid hch
  have HT := Lib.hid ((Turn.of_below (Below.alloc (Below.refl _ _) (Nat.le_refl _) _) (Nat.le_refl _)).trans (ht.mono (by simp)))
  have HO := Lib.hid ((OwnI.made w (Nat.le_refl _)).turn ht (Nat.le_refl _) hg)
  clear hch ht hx HCH
  go_wp2
  go_loopw [3, 4] (fun o i wr => ∃ A2 k c2 j r xs, o = .slice A2 k c2 ∧ i = .int .i64 ((j : Nat) : Int) ∧ r + j ≤ 8 ∧ k ≤ 1 * r ∧ k = xs.length ∧ (∀ x ∈ xs, -1 ≤ x ∧ x ≤ 3256) ∧ Hid (OwnI wr w.heap.size (.slice A2 k c2) k xs) ∧ Hid (Ch wr g (P + 1 + 4 * r)) ∧ Hid (Turn w.heap.size g w wr)) (fun _ i _ => (intOf i).toNat)
  case atStart => exact ⟨_, 0, 0, N, 0, [], rfl, rfl, by omega, by omega, rfl, by simp, HO.out, HC.out, HT.out⟩
  case round =>
    obtain ⟨A2, k, c2, j, r, xs, rfl, rfl, hrj, hkr, hkl, hxs, hown, hch, ht⟩ := hrel
    subst hkl
    have HX := Lib.hid hxs
    clear hxs
    have hsz := ht.out.size
    by_cases hlt : (0 : Int) < (j : Int)
    · have HOWN0 : Hid (OwnI wr w.heap.size (.slice A2 xs.length c2) xs.length xs) := hown
      have HCH0 : Hid (Ch wr g (P + 1 + 4 * r)) := hch
      have HT0 : Hid (Turn w.heap.size g w wr) := ht
      clear hown hch ht
      go_wp2_with fail
      refine (pick_any HCH0.out (by omega) (by decide)).mono ?_
      rintro e wk1 ⟨p, rfl, ⟨hp0p, hp1p, _⟩, hch, ht⟩
      have hp2p := hp1p (by decide)
      clear hp1p
      have HOWN1 := Lib.hid (HOWN0.out.turn ht (Nat.le_refl _) hg)
      have HT1 := Lib.hid (HT0.out.trans (ht.mono hsz))
      have HCH1 := Lib.hid hch
      have hsz1 := HT1.out.size
      clear hch ht
      go_wp2_with fail
      refine (one_lit [97, 228, 10, 2047, p, 3255, 127, 128] HCH1.out (by omega) rfl rfl rfl (by simp) (by simp) (fun x hx => by simp at hx; omega)).mono ?_
      rintro e wk2 ⟨y, hx, rfl, hch, ht⟩
      have hby : -1 ≤ y ∧ y ≤ 3256 := by simp at hx; omega
      clear hx
      have HOWN2 := Lib.hid (HOWN1.out.turn ht (Nat.le_refl _) hg)
      have HT2 := Lib.hid (HT1.out.trans (ht.mono hsz1))
      have HCH2 := Lib.hid hch
      have hsz2 := HT2.out.size
      clear hch ht
      go_wp2_with (at_builtin; refine wpList_append_ints rfl (.tmp 13) (.tmp 19) rfl w.heap.size (.slice A2 xs.length c2) xs.length _ rfl (HOWN2.out.alloc _) (some ⟨wk2.heap.size, 0, none⟩) 1 1 [y] rfl (lit1 wk2 (y) (by unfold okInt; omega)) (by omega) (by simp; omega) ?_)
      intro v' w' hown' hg'
      have hbc := below_grown (HOWN2.out.alloc (.cells #[.int .i64 (y)] 3)) hg' (by simp; omega)
      have HB' : Hid (Turn w.heap.size g w w') := ((HT2.out.step (Below.alloc (Below.refl _ _) (Nat.le_refl _) _) hsz2)).trans (Turn.of_below hbc (Nat.le_refl _))
      have HC' : Hid (Ch w' g _) := (HCH2.out.alloc (.cells #[.int .i64 (y)] 3)).below hbc hg
      have HX' : Hid (∀ u ∈ xs ++ [y], -1 ≤ u ∧ u ≤ 3256) := fun u hy => by
        rcases List.mem_append.1 hy with h2 | h2
        · exact HX.out u h2
        · simp at h2; omega
      obtain ⟨A3, c3, rfl, _⟩ := shapeR hown'
      have HO' := Lib.hid hown'
      clear hown' hg' hbc
      go_wp2
      go_roundw
      case rel => exact ⟨A3, xs.length + 1, c3, j - 1, r + 1, xs ++ [y], rfl, by go_num, by omega, by omega, by simp, HX'.out, HO'.out, HC'.out.more (by omega), HB'.out⟩
      case measure => simp [intOf]; omega
    · have HOWN0 : Hid (OwnI wr w.heap.size (.slice A2 xs.length c2) xs.length xs) := hown
      have HCH0 : Hid (Ch wr g (P + 1 + 4 * r)) := hch
      have HT0 : Hid (Turn w.heap.size g w wr) := ht
      clear hown hch ht
      go_wp2_with fail
      refine (pick_any HCH0.out (by omega) (by decide)).mono ?_
      rintro e wk1 ⟨q, rfl, ⟨hp0q, hp1q, _⟩, hch, ht⟩
      have hp2q := hp1q (by decide)
      clear hp1q
      have HOWN1 := Lib.hid (HOWN0.out.turn ht (Nat.le_refl _) hg)
      have HT1 := Lib.hid (HT0.out.trans (ht.mono hsz))
      have HCH1 := Lib.hid hch
      have hsz1 := HT1.out.size
      clear hch ht
      by_cases hr : q = 0
      · subst hr
        go_wp2_with fail
        refine (one_lit [-1, 2048, 3127, 3256] HCH1.out (by omega) rfl rfl rfl (by decide) (by decide) (by decide)).mono ?_
        rintro e wk2 ⟨y, hx, rfl, hch, ht⟩
        have hby : -1 ≤ y ∧ y ≤ 3256 := by simp at hx; omega
        clear hx
        have HOWN2 := Lib.hid (HOWN1.out.turn ht (Nat.le_refl _) hg)
        have HT2 := Lib.hid (HT1.out.trans (ht.mono hsz1))
        have HCH2 := Lib.hid hch
        have hsz2 := HT2.out.size
        clear hch ht
        go_wp2_with (at_builtin; refine wpList_append_ints rfl (.tmp 24) (.tmp 28) rfl w.heap.size (.slice A2 xs.length c2) xs.length _ rfl (HOWN2.out.alloc _) (some ⟨wk2.heap.size, 0, none⟩) 1 1 [y] rfl (lit1 wk2 (y) (by unfold okInt; omega)) (by omega) (by simp; omega) ?_)
        intro v' w' hown' hg'
        have hbc := below_grown (HOWN2.out.alloc (.cells #[.int .i64 (y)] 3)) hg' (by simp; omega)
        have HB' : Hid (Turn w.heap.size g w w') := ((HT2.out.step (Below.alloc (Below.refl _ _) (Nat.le_refl _) _) hsz2)).trans (Turn.of_below hbc (Nat.le_refl _))
        have HC' : Hid (Ch w' g _) := (HCH2.out.alloc (.cells #[.int .i64 (y)] 3)).below hbc hg
        have HX' : Hid (∀ u ∈ xs ++ [y], -1 ≤ u ∧ u ≤ 3256) := fun u hy => by
          rcases List.mem_append.1 hy with h2 | h2
          · exact HX.out u h2
          · simp at h2; omega
        obtain ⟨A3, c3, rfl, _⟩ := shapeR hown'
        have HO' := Lib.hid hown'
        clear hown' hg' hbc
        go_wp2
        go_ret
        exact ⟨_, xs ++ [y], rfl, ⟨by simp; omega, HX'.out⟩, by simpa using HO'.out, HC'.out.more (by omega), HB'.out⟩
      · have hrb : (q == 0) = false := by simp [hr]
        go_wp2
        go_ret
        have hl := HX.out
        exact ⟨_, xs, rfl, ⟨by omega, hl⟩, HOWN1.out, HCH1.out.more (by omega), HT1.out⟩
set_option maxHeartbeats 8000000 in
theorem codeBytes_any {g P : Nat} {w : World} (h : Ch w g P) (hP : P ≤ 900000) :
    Calls Tryd.prog 54 #[.pointer (some ⟨g, 0, none⟩)] w (RowPost g (P + 60) (fun xs => xs.length ≤ 17 ∧ ∀ x ∈ xs, -1 ≤ x ∧ x ≤ 256) w) := by
  have hg := h.lt
  have HCH := Lib.hid (h.alloc (.cells #[] 3))
  clear h
  go_enter Tryd.func54, Tryd.ntmps54
  go_wp2_with fail
  refine (one_lit [4, 6, 3, 8, 1, 0] HCH.out (by omega) (by simp) rfl rfl (by decide) (by decide) (by decide)).mono ?_
  rintro e w1 ⟨x, hx, rfl, hch, ht⟩
  have hx2 : 0 ≤ x ∧ x ≤ 8 := by simp at hx; omega
  obtain ⟨N, rfl⟩ := Int.eq_ofNat_of_zero_le hx2.1
  have HC := Lib.hid hch
  have HT := Lib.hid ((Turn.of_below (Below.alloc (Below.refl _ _) (Nat.le_refl _) _) (Nat.le_refl _)).trans (ht.mono (by simp)))
  have HO := Lib.hid ((OwnI.made w (Nat.le_refl _)).turn ht (Nat.le_refl _) hg)
  clear hch ht hx HCH
  go_wp2
  go_loopw [3, 4] (fun o i wr => ∃ A2 k c2 j r xs, o = .slice A2 k c2 ∧ i = .int .i64 ((j : Nat) : Int) ∧ r + j ≤ 8 ∧ k ≤ 2 * r ∧ k = xs.length ∧ (∀ x ∈ xs, -1 ≤ x ∧ x ≤ 256) ∧ Hid (OwnI wr w.heap.size (.slice A2 k c2) k xs) ∧ Hid (Ch wr g (P + 1 + 4 * r)) ∧ Hid (Turn w.heap.size g w wr)) (fun _ i _ => (intOf i).toNat)
  case atStart => exact ⟨_, 0, 0, N, 0, [], rfl, rfl, by omega, by omega, rfl, by simp, HO.out, HC.out, HT.out⟩
  case round =>
    obtain ⟨A2, k, c2, j, r, xs, rfl, rfl, hrj, hkr, hkl, hxs, hown, hch, ht⟩ := hrel
    subst hkl
    have HX := Lib.hid hxs
    clear hxs
    have hsz := ht.out.size
    by_cases hlt : (0 : Int) < (j : Int)
    · have HOWN0 : Hid (OwnI wr w.heap.size (.slice A2 xs.length c2) xs.length xs) := hown
      have HCH0 : Hid (Ch wr g (P + 1 + 4 * r)) := hch
      have HT0 : Hid (Turn w.heap.size g w wr) := ht
      clear hown hch ht
      go_wp2_with fail
      refine (pick_any HCH0.out (by omega) (by decide)).mono ?_
      rintro e wk1 ⟨q, rfl, ⟨hp0q, hp1q, _⟩, hch, ht⟩
      have hp2q := hp1q (by decide)
      clear hp1q
      have HOWN1 := Lib.hid (HOWN0.out.turn ht (Nat.le_refl _) hg)
      have HT1 := Lib.hid (HT0.out.trans (ht.mono hsz))
      have HCH1 := Lib.hid hch
      have hsz1 := HT1.out.size
      clear hch ht
      by_cases h01 : q = 0 ∨ q = 1
      · rcases h01 with rfl | rfl
        all_goals
          go_wp2_with fail
          refine (pick_any HCH1.out (by omega) (by decide)).mono ?_
          rintro e wk2 ⟨p1, rfl, ⟨hp0p1, hp1p1, _⟩, hch, ht⟩
          have hp2p1 := hp1p1 (by decide)
          clear hp1p1
          have HOWN2 := Lib.hid (HOWN1.out.turn ht (Nat.le_refl _) hg)
          have HT2 := Lib.hid (HT1.out.trans (ht.mono hsz1))
          have HCH2 := Lib.hid hch
          have hsz2 := HT2.out.size
          clear hch ht
          go_wp2_with fail
          refine (pick_any HCH2.out (by omega) (by decide)).mono ?_
          rintro e wk3 ⟨p2, rfl, ⟨hp0p2, hp1p2, _⟩, hch, ht⟩
          have hp2p2 := hp1p2 (by decide)
          clear hp1p2
          have HOWN3 := Lib.hid (HOWN2.out.turn ht (Nat.le_refl _) hg)
          have HT3 := Lib.hid (HT2.out.trans (ht.mono hsz2))
          have HCH3 := Lib.hid hch
          have hsz3 := HT3.out.size
          clear hch ht
          go_wp2_with (at_builtin; refine wpList_append_ints rfl (.tmp 24) (.tmp 31) rfl w.heap.size (.slice A2 xs.length c2) xs.length _ rfl (HOWN3.out.alloc _) (some ⟨wk3.heap.size, 0, none⟩) 2 2 [194 + p1, 128 + p2] rfl (lit2 wk3 (194 + p1) (128 + p2) (by unfold okInt; omega) (by unfold okInt; omega)) (by omega) (by simp; omega) ?_)
          intro v' w' hown' hg'
          have hbc := below_grown (HOWN3.out.alloc (.cells #[.int .i64 (194 + p1), .int .i64 (128 + p2)] 3)) hg' (by simp; omega)
          have HB' : Hid (Turn w.heap.size g w w') := ((HT3.out.step (Below.alloc (Below.refl _ _) (Nat.le_refl _) _) hsz3)).trans (Turn.of_below hbc (Nat.le_refl _))
          have HC' : Hid (Ch w' g _) := (HCH3.out.alloc (.cells #[.int .i64 (194 + p1), .int .i64 (128 + p2)] 3)).below hbc hg
          have HX' : Hid (∀ u ∈ xs ++ [194 + p1, 128 + p2], -1 ≤ u ∧ u ≤ 256) := fun u hy => by
            rcases List.mem_append.1 hy with h2 | h2
            · exact HX.out u h2
            · simp at h2; omega
          obtain ⟨A3, c3, rfl, _⟩ := shapeR hown'
          have HO' := Lib.hid hown'
          clear hown' hg' hbc
          go_wp2
          go_roundw
          case rel => exact ⟨A3, xs.length + 2, c3, j - 1, r + 1, xs ++ [194 + p1, 128 + p2], rfl, by go_num, by omega, by omega, by simp, HX'.out, HO'.out, HC'.out.more (by omega), HB'.out⟩
          case measure => simp [intOf]; omega
      · have e0 : (q == 0) = false := by simp; omega
        have e1 : (q == 1) = false := by simp; omega
        by_cases h2 : q = 2
        · subst h2
          go_wp2_with fail
          refine (one_lit [195, 128, 255, 192, 191, 223, 224] HCH1.out (by omega) rfl rfl rfl (by decide) (by decide) (by decide)).mono ?_
          rintro e wk2 ⟨y, hx, rfl, hch, ht⟩
          have hby : -1 ≤ y ∧ y ≤ 256 := by simp at hx; omega
          clear hx
          have HOWN2 := Lib.hid (HOWN1.out.turn ht (Nat.le_refl _) hg)
          have HT2 := Lib.hid (HT1.out.trans (ht.mono hsz1))
          have HCH2 := Lib.hid hch
          have hsz2 := HT2.out.size
          clear hch ht
          go_wp2_with (at_builtin; refine wpList_append_ints rfl (.tmp 35) (.tmp 39) rfl w.heap.size (.slice A2 xs.length c2) xs.length _ rfl (HOWN2.out.alloc _) (some ⟨wk2.heap.size, 0, none⟩) 1 1 [y] rfl (lit1 wk2 (y) (by unfold okInt; omega)) (by omega) (by simp; omega) ?_)
          intro v' w' hown' hg'
          have hbc := below_grown (HOWN2.out.alloc (.cells #[.int .i64 (y)] 3)) hg' (by simp; omega)
          have HB' : Hid (Turn w.heap.size g w w') := ((HT2.out.step (Below.alloc (Below.refl _ _) (Nat.le_refl _) _) hsz2)).trans (Turn.of_below hbc (Nat.le_refl _))
          have HC' : Hid (Ch w' g _) := (HCH2.out.alloc (.cells #[.int .i64 (y)] 3)).below hbc hg
          have HX' : Hid (∀ u ∈ xs ++ [y], -1 ≤ u ∧ u ≤ 256) := fun u hy => by
            rcases List.mem_append.1 hy with h2 | h2
            · exact HX.out u h2
            · simp at h2; omega
          obtain ⟨A3, c3, rfl, _⟩ := shapeR hown'
          have HO' := Lib.hid hown'
          clear hown' hg' hbc
          go_wp2
          go_roundw
          case rel => exact ⟨A3, xs.length + 1, c3, j - 1, r + 1, xs ++ [y], rfl, by go_num, by omega, by omega, by simp, HX'.out, HO'.out, HC'.out.more (by omega), HB'.out⟩
          case measure => simp [intOf]; omega
        · have e2 : (q == 2) = false := by simp [h2]
          go_wp2_with fail
          refine (pick_any HCH1.out (by omega) (by decide)).mono ?_
          rintro e wk2 ⟨p3, rfl, ⟨hp0p3, hp1p3, _⟩, hch, ht⟩
          have hp2p3 := hp1p3 (by decide)
          clear hp1p3
          have HOWN2 := Lib.hid (HOWN1.out.turn ht (Nat.le_refl _) hg)
          have HT2 := Lib.hid (HT1.out.trans (ht.mono hsz1))
          have HCH2 := Lib.hid hch
          have hsz2 := HT2.out.size
          clear hch ht
          go_wp2_with (at_builtin; refine wpList_append_ints rfl (.tmp 15) (.tmp 19) rfl w.heap.size (.slice A2 xs.length c2) xs.length _ rfl (HOWN2.out.alloc _) (some ⟨wk2.heap.size, 0, none⟩) 1 1 [97 + p3] rfl (lit1 wk2 (97 + p3) (by unfold okInt; omega)) (by omega) (by simp; omega) ?_)
          intro v' w' hown' hg'
          have hbc := below_grown (HOWN2.out.alloc (.cells #[.int .i64 (97 + p3)] 3)) hg' (by simp; omega)
          have HB' : Hid (Turn w.heap.size g w w') := ((HT2.out.step (Below.alloc (Below.refl _ _) (Nat.le_refl _) _) hsz2)).trans (Turn.of_below hbc (Nat.le_refl _))
          have HC' : Hid (Ch w' g _) := (HCH2.out.alloc (.cells #[.int .i64 (97 + p3)] 3)).below hbc hg
          have HX' : Hid (∀ u ∈ xs ++ [97 + p3], -1 ≤ u ∧ u ≤ 256) := fun u hy => by
            rcases List.mem_append.1 hy with h2 | h2
            · exact HX.out u h2
            · simp at h2; omega
          obtain ⟨A3, c3, rfl, _⟩ := shapeR hown'
          have HO' := Lib.hid hown'
          clear hown' hg' hbc
          go_wp2
          go_roundw
          case rel => exact ⟨A3, xs.length + 1, c3, j - 1, r + 1, xs ++ [97 + p3], rfl, by go_num, by omega, by omega, by simp, HX'.out, HO'.out, HC'.out.more (by omega), HB'.out⟩
          case measure => simp [intOf]; omega
    · have HOWN0 : Hid (OwnI wr w.heap.size (.slice A2 xs.length c2) xs.length xs) := hown
      have HCH0 : Hid (Ch wr g (P + 1 + 4 * r)) := hch
      have HT0 : Hid (Turn w.heap.size g w wr) := ht
      clear hown hch ht
      go_wp2_with fail
      refine (pick_any HCH0.out (by omega) (by decide)).mono ?_
      rintro e wk1 ⟨q, rfl, ⟨hp0q, hp1q, _⟩, hch, ht⟩
      have hp2q := hp1q (by decide)
      clear hp1q
      have HOWN1 := Lib.hid (HOWN0.out.turn ht (Nat.le_refl _) hg)
      have HT1 := Lib.hid (HT0.out.trans (ht.mono hsz))
      have HCH1 := Lib.hid hch
      have hsz1 := HT1.out.size
      clear hch ht
      by_cases hr : q = 0
      · subst hr
        go_wp2_with fail
        refine (one_lit [-1, 256] HCH1.out (by omega) rfl rfl rfl (by decide) (by decide) (by decide)).mono ?_
        rintro e wk2 ⟨y, hx, rfl, hch, ht⟩
        have hby : -1 ≤ y ∧ y ≤ 256 := by simp at hx; omega
        clear hx
        have HOWN2 := Lib.hid (HOWN1.out.turn ht (Nat.le_refl _) hg)
        have HT2 := Lib.hid (HT1.out.trans (ht.mono hsz1))
        have HCH2 := Lib.hid hch
        have hsz2 := HT2.out.size
        clear hch ht
        go_wp2_with (at_builtin; refine wpList_append_ints rfl (.tmp 44) (.tmp 48) rfl w.heap.size (.slice A2 xs.length c2) xs.length _ rfl (HOWN2.out.alloc _) (some ⟨wk2.heap.size, 0, none⟩) 1 1 [y] rfl (lit1 wk2 (y) (by unfold okInt; omega)) (by omega) (by simp; omega) ?_)
        intro v' w' hown' hg'
        have hbc := below_grown (HOWN2.out.alloc (.cells #[.int .i64 (y)] 3)) hg' (by simp; omega)
        have HB' : Hid (Turn w.heap.size g w w') := ((HT2.out.step (Below.alloc (Below.refl _ _) (Nat.le_refl _) _) hsz2)).trans (Turn.of_below hbc (Nat.le_refl _))
        have HC' : Hid (Ch w' g _) := (HCH2.out.alloc (.cells #[.int .i64 (y)] 3)).below hbc hg
        have HX' : Hid (∀ u ∈ xs ++ [y], -1 ≤ u ∧ u ≤ 256) := fun u hy => by
          rcases List.mem_append.1 hy with h2 | h2
          · exact HX.out u h2
          · simp at h2; omega
        obtain ⟨A3, c3, rfl, _⟩ := shapeR hown'
        have HO' := Lib.hid hown'
        clear hown' hg' hbc
        go_wp2
        go_ret
        exact ⟨_, xs ++ [y], rfl, ⟨by simp; omega, HX'.out⟩, by simpa using HO'.out, HC'.out.more (by omega), HB'.out⟩
      · have hrb : (q == 0) = false := by simp [hr]
        go_wp2
        go_ret
        have hl := HX.out
        exact ⟨_, xs, rfl, ⟨by omega, hl⟩, HOWN1.out, HCH1.out.more (by omega), HT1.out⟩
/-- Lists in new memory, drawn. -/
def DrawnC (w : World) (e : Ending) (w' : World) : Prop := ∃ A n c xs, e = .returned (.slice A n c) ∧ n ≤ c ∧ n ≤ 17 ∧ Below w.heap.size w w' ∧ Ints w' w.heap.size w'.heap.size A n xs
def DrawnCI (w : World) (e : Ending) (w' : World) : Prop := ∃ A n c xs z, e = .returned (.tuple #[.slice A n c, .int .i64 z]) ∧ n ≤ c ∧ n ≤ 17 ∧ Below w.heap.size w w' ∧ Ints w' w.heap.size w'.heap.size A n xs ∧ (-1 ≤ z ∧ z ≤ 300)
def DrawnCIBI (w : World) (e : Ending) (w' : World) : Prop := ∃ A n c xs z b y, e = .returned (.tuple #[.slice A n c, .int .i64 z, .bool b, .int .i64 y]) ∧ n ≤ c ∧ n ≤ 17 ∧ Below w.heap.size w w' ∧ Ints w' w.heap.size w'.heap.size A n xs ∧ (-1 ≤ z ∧ z ≤ 300) ∧ (-1 ≤ y ∧ y ≤ 300)
set_option maxHeartbeats 1000000 in
theorem DrawValidPoints_any {A : Option Addr} {n c : Nat} {w : World} (h : BytesIn w w.heap.size A n) (hn : n ≤ 1048576) (hnc : n ≤ c) : Calls Tryd.prog 14 #[.slice A n c] w (DrawnC w) := by
  go_enter Tryd.func14, Tryd.ntmps14
  go_wp2_with fail
  refine (newChooser_any h hn hnc).mono ?_
  rintro e w1 ⟨rfl, hch, hb⟩
  have s1 := hch.lt
  go_wp2_with fail
  refine (somePoints_any hch (by omega)).mono ?_
  rintro e w2 ⟨v, xs, rfl, ⟨hl, hx⟩, hown, _, ht⟩
  obtain ⟨A2, c2, rfl, hc2, hI⟩ := hown.ints (fun x hxm => by have := hx x hxm; unfold okInt; omega)
  have hb2 := hb.trans (ht.below (B := w.heap.size) (by omega) (by omega))
  have HI := Lib.hid hI
  have HB := Lib.hid hb2
  clear hown ht hI hx hb hb2 hch
  go_wp2
  go_ret
  exact ⟨_, _, _, xs, rfl, hc2, by omega, HB.out, HI.out.more (by omega) (Nat.le_refl _)⟩
set_option maxHeartbeats 1000000 in
theorem DrawEncodePoints_any {A : Option Addr} {n c : Nat} {w : World} (h : BytesIn w w.heap.size A n) (hn : n ≤ 1048576) (hnc : n ≤ c) : Calls Tryd.prog 18 #[.slice A n c] w (DrawnC w) := by
  go_enter Tryd.func18, Tryd.ntmps18
  go_wp2_with fail
  refine (newChooser_any h hn hnc).mono ?_
  rintro e w1 ⟨rfl, hch, hb⟩
  have s1 := hch.lt
  go_wp2_with fail
  refine (somePoints_any hch (by omega)).mono ?_
  rintro e w2 ⟨v, xs, rfl, ⟨hl, hx⟩, hown, _, ht⟩
  obtain ⟨A2, c2, rfl, hc2, hI⟩ := hown.ints (fun x hxm => by have := hx x hxm; unfold okInt; omega)
  have hb2 := hb.trans (ht.below (B := w.heap.size) (by omega) (by omega))
  have HI := Lib.hid hI
  have HB := Lib.hid hb2
  clear hown ht hI hx hb hb2 hch
  go_wp2
  go_ret
  exact ⟨_, _, _, xs, rfl, hc2, by omega, HB.out, HI.out.more (by omega) (Nat.le_refl _)⟩
set_option maxHeartbeats 1000000 in
theorem DrawCleanPoints_any {A : Option Addr} {n c : Nat} {w : World} (h : BytesIn w w.heap.size A n) (hn : n ≤ 1048576) (hnc : n ≤ c) : Calls Tryd.prog 42 #[.slice A n c] w (DrawnC w) := by
  go_enter Tryd.func42, Tryd.ntmps42
  go_wp2_with fail
  refine (newChooser_any h hn hnc).mono ?_
  rintro e w1 ⟨rfl, hch, hb⟩
  have s1 := hch.lt
  go_wp2_with fail
  refine (somePoints_any hch (by omega)).mono ?_
  rintro e w2 ⟨v, xs, rfl, ⟨hl, hx⟩, hown, _, ht⟩
  obtain ⟨A2, c2, rfl, hc2, hI⟩ := hown.ints (fun x hxm => by have := hx x hxm; unfold okInt; omega)
  have hb2 := hb.trans (ht.below (B := w.heap.size) (by omega) (by omega))
  have HI := Lib.hid hI
  have HB := Lib.hid hb2
  clear hown ht hI hx hb hb2 hch
  go_wp2
  go_ret
  exact ⟨_, _, _, xs, rfl, hc2, by omega, HB.out, HI.out.more (by omega) (Nat.le_refl _)⟩
set_option maxHeartbeats 1000000 in
theorem DrawBadAt_any {A : Option Addr} {n c : Nat} {w : World} (h : BytesIn w w.heap.size A n) (hn : n ≤ 1048576) (hnc : n ≤ c) : Calls Tryd.prog 30 #[.slice A n c] w (DrawnC w) := by
  go_enter Tryd.func30, Tryd.ntmps30
  go_wp2_with fail
  refine (newChooser_any h hn hnc).mono ?_
  rintro e w1 ⟨rfl, hch, hb⟩
  have s1 := hch.lt
  go_wp2_with fail
  refine (codeBytes_any hch (by omega)).mono ?_
  rintro e w2 ⟨v, xs, rfl, ⟨hl, hx⟩, hown, _, ht⟩
  obtain ⟨A2, c2, rfl, hc2, hI⟩ := hown.ints (fun x hxm => by have := hx x hxm; unfold okInt; omega)
  have hb2 := hb.trans (ht.below (B := w.heap.size) (by omega) (by omega))
  have HI := Lib.hid hI
  have HB := Lib.hid hb2
  clear hown ht hI hx hb hb2 hch
  go_wp2
  go_ret
  exact ⟨_, _, _, xs, rfl, hc2, by omega, HB.out, HI.out.more (by omega) (Nat.le_refl _)⟩
set_option maxHeartbeats 1000000 in
theorem DrawCountPoints_any {A : Option Addr} {n c : Nat} {w : World} (h : BytesIn w w.heap.size A n) (hn : n ≤ 1048576) (hnc : n ≤ c) : Calls Tryd.prog 32 #[.slice A n c] w (DrawnC w) := by
  go_enter Tryd.func32, Tryd.ntmps32
  go_wp2_with fail
  refine (newChooser_any h hn hnc).mono ?_
  rintro e w1 ⟨rfl, hch, hb⟩
  have s1 := hch.lt
  go_wp2_with fail
  refine (codeBytes_any hch (by omega)).mono ?_
  rintro e w2 ⟨v, xs, rfl, ⟨hl, hx⟩, hown, _, ht⟩
  obtain ⟨A2, c2, rfl, hc2, hI⟩ := hown.ints (fun x hxm => by have := hx x hxm; unfold okInt; omega)
  have hb2 := hb.trans (ht.below (B := w.heap.size) (by omega) (by omega))
  have HI := Lib.hid hI
  have HB := Lib.hid hb2
  clear hown ht hI hx hb hb2 hch
  go_wp2
  go_ret
  exact ⟨_, _, _, xs, rfl, hc2, by omega, HB.out, HI.out.more (by omega) (Nat.le_refl _)⟩
set_option maxHeartbeats 1000000 in
theorem DrawPlacesOf_any {A : Option Addr} {n c : Nat} {w : World} (h : BytesIn w w.heap.size A n) (hn : n ≤ 1048576) (hnc : n ≤ c) : Calls Tryd.prog 39 #[.slice A n c] w (DrawnC w) := by
  go_enter Tryd.func39, Tryd.ntmps39
  go_wp2_with fail
  refine (newChooser_any h hn hnc).mono ?_
  rintro e w1 ⟨rfl, hch, hb⟩
  have s1 := hch.lt
  go_wp2_with fail
  refine (codeBytes_any hch (by omega)).mono ?_
  rintro e w2 ⟨v, xs, rfl, ⟨hl, hx⟩, hown, _, ht⟩
  obtain ⟨A2, c2, rfl, hc2, hI⟩ := hown.ints (fun x hxm => by have := hx x hxm; unfold okInt; omega)
  have hb2 := hb.trans (ht.below (B := w.heap.size) (by omega) (by omega))
  have HI := Lib.hid hI
  have HB := Lib.hid hb2
  clear hown ht hI hx hb hb2 hch
  go_wp2
  go_ret
  exact ⟨_, _, _, xs, rfl, hc2, by omega, HB.out, HI.out.more (by omega) (Nat.le_refl _)⟩
set_option maxHeartbeats 1000000 in
theorem DrawDecodeBytes_any {A : Option Addr} {n c : Nat} {w : World} (h : BytesIn w w.heap.size A n) (hn : n ≤ 1048576) (hnc : n ≤ c) : Calls Tryd.prog 27 #[.slice A n c] w (DrawnCI w) := by
  go_enter Tryd.func27, Tryd.ntmps27
  go_wp2_with fail
  refine (newChooser_any h hn hnc).mono ?_
  rintro e w1 ⟨rfl, hch, hb⟩
  have s1 := hch.lt
  have z1 := hb.size
  go_wp2_with fail
  refine (codeBytes_any hch (by omega)).mono ?_
  rintro e w2 ⟨v, xs, rfl, ⟨hl, hx⟩, hown, hch2, ht⟩
  have hb2 := hb.trans (ht.below (B := w.heap.size) (by omega) (by omega))
  have s2 := ht.size
  have HO := Lib.hid hown
  have HC2 := Lib.hid hch2
  have HB := Lib.hid hb2
  have HX := Lib.hid hx
  clear hown ht hx hb hb2 hch hch2
  go_wp2_with fail
  refine (one_lit [0, 1, 2, 3, 3, 0, 4, -1] HC2.out (by omega) rfl rfl rfl (by decide) (by decide) (by decide)).mono ?_
  rintro e w3 ⟨z, hz, rfl, _, ht⟩
  have hz2 : -1 ≤ z ∧ z ≤ 300 := by simp at hz; omega
  have hown3 := HO.out.turn ht (Nat.le_refl _) s1
  obtain ⟨A2, c2, rfl, hc2, hI⟩ := hown3.ints (fun x hxm => by have := HX.out x hxm; unfold okInt; omega)
  have E3 : Hid (Below w.heap.size w w3) := HB.out.trans (ht.below (by omega) (by omega))
  have HI := Lib.hid hI
  clear ht hz hown3 hI HO
  go_wp2
  go_ret2
  exact ⟨_, _, _, xs, z, rfl, hc2, hl, E3.out, HI.out.more (by omega) (Nat.le_refl _), hz2⟩
set_option maxHeartbeats 2000000 in
theorem DrawSyncAt_any {A : Option Addr} {n c : Nat} {w : World} (h : BytesIn w w.heap.size A n) (hn : n ≤ 1048576) (hnc : n ≤ c) : Calls Tryd.prog 36 #[.slice A n c] w (DrawnCI w) := by
  go_enter Tryd.func36, Tryd.ntmps36
  go_wp2_with fail
  refine (newChooser_any h hn hnc).mono ?_
  rintro e w1 ⟨rfl, hch, hb⟩
  have s1 := hch.lt
  have z1 := hb.size
  go_wp2_with fail
  refine (codeBytes_any hch (by omega)).mono ?_
  rintro e w2 ⟨v, xs, rfl, ⟨hl, hx⟩, hown, hch2, ht⟩
  have hb2 := hb.trans (ht.below (B := w.heap.size) (by omega) (by omega))
  have s2 := ht.size
  have HO := Lib.hid hown
  have HC2 := Lib.hid hch2
  have HB := Lib.hid hb2
  have HX := Lib.hid hx
  clear hown ht hx hb hb2 hch hch2
  obtain ⟨A2, c2, rfl, hc2⟩ := shapeR HO.out
  go_wp2_with fail
  refine (pick_any HC2.out (by omega) (by omega)).mono ?_
  rintro e w3 ⟨q, rfl, ⟨hq0, hq1, _⟩, hch3, ht⟩
  have hq2 : q < 60 := by have := hq1 (by omega); omega
  have hown3 := Lib.hid (HO.out.turn ht (Nat.le_refl _) s1)
  have HB3 : Hid (Below w.heap.size w w3) := HB.out.trans (ht.below (by omega) (by omega))
  have HC3 := Lib.hid hch3
  have s3 := ht.size
  clear ht hq1 hch3 HO HB HC2
  go_wp2_with fail
  refine (one_lit [q, 0, 1, -1, (xs.length : Int)] HC3.out (by omega) rfl rfl rfl (by simp) (by simp) (fun x hx => by simp at hx; omega)).mono ?_
  rintro e w4 ⟨z, hz, rfl, _, ht⟩
  have hz2 : -1 ≤ z ∧ z ≤ 300 := by simp at hz; omega
  have hown4 := hown3.out.turn ht (Nat.le_refl _) (by omega)
  obtain ⟨A4, c4, e4, hc4, hI⟩ := hown4.ints (fun x hxm => by have := HX.out x hxm; unfold okInt; omega)
  injection e4 with e1 e2 e3
  subst e1 e3
  have E4 : Hid (Below w.heap.size w w4) := HB3.out.trans (ht.below (by omega) (by omega))
  have HI := Lib.hid hI
  clear ht hz hown4 hI hown3
  go_wp2
  go_ret2
  exact ⟨_, _, _, xs, z, rfl, hc2, hl, E4.out, HI.out.more (by omega) (Nat.le_refl _), hz2⟩
set_option maxHeartbeats 2000000 in
theorem DrawDecodeSome_any {A : Option Addr} {n c : Nat} {w : World} (h : BytesIn w w.heap.size A n) (hn : n ≤ 1048576) (hnc : n ≤ c) : Calls Tryd.prog 23 #[.slice A n c] w (DrawnCIBI w) := by
  go_enter Tryd.func23, Tryd.ntmps23
  go_wp2_with fail
  refine (newChooser_any h hn hnc).mono ?_
  rintro e w1 ⟨rfl, hch, hb⟩
  have s1 := hch.lt
  have z1 := hb.size
  go_wp2_with fail
  refine (codeBytes_any hch (by omega)).mono ?_
  rintro e w2 ⟨v, xs, rfl, ⟨hl, hx⟩, hown, hch2, ht⟩
  have hb2 := hb.trans (ht.below (B := w.heap.size) (by omega) (by omega))
  have s2 := ht.size
  have HO := Lib.hid hown
  have HC2 := Lib.hid hch2
  have HB := Lib.hid hb2
  have HX := Lib.hid hx
  clear hown ht hx hb hb2 hch hch2
  obtain ⟨A2, c2, rfl, hc2⟩ := shapeR HO.out
  go_wp2_with fail
  refine (one_lit [0, 0, 195, 194, 223, 193, 97] HC2.out (by omega) rfl rfl rfl (by decide) (by decide) (by decide)).mono ?_
  rintro e w3 ⟨z, hz, rfl, hch3, ht⟩
  have hz2 : -1 ≤ z ∧ z ≤ 300 := by simp at hz; omega
  have HO3 := Lib.hid (HO.out.turn ht (Nat.le_refl _) s1)
  have HB3 : Hid (Below w.heap.size w w3) := HB.out.trans (ht.below (by omega) (by omega))
  have HC3 := Lib.hid hch3
  have s3 := ht.size
  clear ht hz hch3 HO HB HC2
  go_wp2_with fail
  refine (pick_any HC3.out (by omega) (by omega)).mono ?_
  rintro e w4 ⟨q, rfl, _, hch4, ht⟩
  have HO4 := Lib.hid (HO3.out.turn ht (Nat.le_refl _) (by omega))
  have HB4 : Hid (Below w.heap.size w w4) := HB3.out.trans (ht.below (by omega) (by omega))
  have HC4 := Lib.hid hch4
  have s4 := ht.size
  clear ht hch4 HO3 HB3 HC3
  go_wp2_with fail
  refine (one_lit [0, 1, 2, 3, 3, 0, 4, -1] HC4.out (by omega) rfl rfl rfl (by decide) (by decide) (by decide)).mono ?_
  rintro e w5 ⟨y, hy, rfl, _, ht⟩
  have hy2 : -1 ≤ y ∧ y ≤ 300 := by simp at hy; omega
  have hown5 := HO4.out.turn ht (Nat.le_refl _) (by omega)
  obtain ⟨A4, c4, e4, hc4, hI⟩ := hown5.ints (fun x hxm => by have := HX.out x hxm; unfold okInt; omega)
  injection e4 with e1 e2 e3
  subst e1 e3
  have E5 : Hid (Below w.heap.size w w5) := HB4.out.trans (ht.below (by omega) (by omega))
  have HI := Lib.hid hI
  clear ht hy hown5 hI HO4
  go_wp2
  refine bodyPost_ret (v := .tuple #[.slice A2 xs.length c2, .int .i64 z, .bool (q == 0), .int .i64 y]) (by simp [results, Tryd.results23, go_sem]) rfl ?_
  exact ⟨_, _, _, xs, z, _, y, rfl, hc2, hl, E5.out, HI.out.more (by omega) (Nat.le_refl _), hz2, hy2⟩
end Go.Proofs.YtkgjcoakeliocaaDoor
