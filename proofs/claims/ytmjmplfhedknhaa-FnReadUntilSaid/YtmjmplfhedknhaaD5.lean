/- Contracts of the drawing functions: a script. -/
import Derived.Test.YtmjmplfhedknhaaD4
namespace Go.Proofs.Ytmjmplfhedknhaa
open Go.ChangeShapes Go.WideShapes Go.ChangeAt Go.RowKit
set_option linter.unusedSimpArgs false
set_option linter.unusedVariables false

set_option maxHeartbeats 2000000 in
theorem someScript_any {g P : Nat} {w : World} (h : Ch w g P) (hP : P ≤ 900000) :
    Calls Try.prog 91 #[.pointer (some ⟨g, 0, none⟩)] w (RowPost g (P + 50) (fun xs => xs.length ≤ 6 ∧ ∀ x ∈ xs, -1 ≤ x ∧ x ≤ 60) w) := by
  have hg := h.lt
  have HCH := Lib.hid (h.alloc (.cells #[] 3))
  clear h
  go_enter Try.func91, Try.ntmps91
  go_wp2_with fail
  refine (pick_any HCH.out (by omega) (by decide)).mono ?_
  rintro e w1 ⟨r, rfl, ⟨hr0, hr1, _⟩, hch, ht⟩
  have HC := Lib.hid hch
  have HT := Lib.hid ((Turn.of_below (Below.alloc (Below.refl _ _) (Nat.le_refl _) _) (Nat.le_refl _)).trans (ht.mono (by simp)))
  have HO := Lib.hid ((OwnI.made w (Nat.le_refl _)).turn ht (Nat.le_refl _) hg)
  have hs1 := HT.out.size
  clear hch ht HCH
  go_wp2_with fail
  refine (one_lit [3, 4, 2, 6, 0, 1] HC.out (by omega) rfl rfl rfl (by decide) (by decide) (by decide)).mono ?_
  rintro e w2 ⟨x, hx, rfl, hch, ht⟩
  have hx2 : 0 ≤ x ∧ x ≤ 6 := by simp at hx; omega
  obtain ⟨N, rfl⟩ := Int.eq_ofNat_of_zero_le hx2.1
  have HC2 := Lib.hid hch
  have HT2 := Lib.hid (HT.out.trans (ht.mono hs1))
  have HO2 := Lib.hid (HO.out.turn ht (Nat.le_refl _) hg)
  clear hch ht hx HC HT HO
  go_wp2
  generalize (r == 0) = rough at *
  go_loopw [3, 5] (fun o i wr => ∃ A2 k c2 j xs, o = .slice A2 k c2 ∧ i = .int .i64 ((j : Nat) : Int) ∧ k + j ≤ 6 ∧ k = xs.length ∧ (∀ x ∈ xs, -1 ≤ x ∧ x ≤ 60) ∧ Hid (OwnI wr w.heap.size (.slice A2 k c2) k xs) ∧ Hid (Ch wr g (P + 2 + 3 * k)) ∧ Hid (Turn w.heap.size g w wr)) (fun _ i _ => (intOf i).toNat)
  case atStart => exact ⟨_, 0, 0, N, [], rfl, rfl, by omega, rfl, by simp, HO2.out, HC2.out, HT2.out⟩
  case round =>
    obtain ⟨A2, k, c2, j, xs, rfl, rfl, hkj, hkl, hxs, HOWN0, HCH0, HT0⟩ := hrel
    subst hkl
    have HX := Lib.hid hxs
    clear hxs
    have hsz0 := HT0.out.size
    by_cases hlt : (0 : Int) < (j : Int)
    · go_wp2_with fail
      refine (one_lit [1, 2, 3, 5, 8] HCH0.out (by omega) rfl rfl rfl (by decide) (by decide) (by decide)).mono ?_
      rintro e wa ⟨x, hx, rfl, hch, ht⟩
      have hx3 : -1 ≤ x ∧ x ≤ 60 := by simp at hx; omega
      clear hx
      have HOWN1 := Lib.hid (HOWN0.out.turn ht (Nat.le_refl _) hg)
      have HT1 := Lib.hid (HT0.out.trans (ht.mono hsz0))
      have HCH1 := Lib.hid hch
      have hsz1 := HT1.out.size
      clear hch ht
      cases rough
      · skip
        go_wp2_with (at_builtin; refine wpList_append_ints rfl (.tmp 30) (.tmp 32) rfl w.heap.size (.slice A2 xs.length c2) xs.length _ rfl (HOWN1.out.alloc _) (some ⟨wa.heap.size, 0, none⟩) 1 1 [x] rfl (one_int wa x (by omega) (by omega)) (by omega) (by simp; omega) ?_)
        intro v' w' hown' hg'
        have hbe' := ((HT1.out.step (Below.alloc (Below.refl _ _) (Nat.le_refl _) _) hsz1)).trans (Turn.of_below (below_grown (HOWN1.out.alloc (.cells #[.int .i64 x] 3)) hg' (by simp; omega)) (Nat.le_refl _))
        have hbc := below_grown (HOWN1.out.alloc (.cells #[.int .i64 x] 3)) hg' (by simp; omega)
        have hch' := (HCH1.out.alloc (.cells #[.int .i64 x] 3)).below hbc hg
        obtain ⟨A3, c3, rfl, _, _⟩ := hown'.ints (fun y hy => by
          rcases List.mem_append.1 hy with h2 | h2
          · have := HX.out y h2; unfold okInt; omega
          · simp at h2; subst h2; unfold okInt; omega)
        have hxs' : ∀ y ∈ xs ++ [x], -1 ≤ y ∧ y ≤ 60 := fun y hy => by
          rcases List.mem_append.1 hy with h2 | h2
          · exact HX.out y h2
          · simp at h2; subst h2; exact hx3
        have HO' := Lib.hid hown'
        have HB' := Lib.hid hbe'
        have HC' := Lib.hid hch'
        have HX' := Lib.hid hxs'
        clear hown' hbe' hg' hch' hbc hxs'
        go_wp2
        go_roundw
        case rel => exact ⟨A3, xs.length + 1, c3, j - 1, xs ++ [x], rfl, by go_num, by omega, by simp, HX'.out, HO'.out, HC'.out.more (by omega), HB'.out⟩
        case measure => simp [intOf]; omega
      · go_wp2_with fail
        refine (pick_any HCH1.out (by omega) (by decide)).mono ?_
        rintro e wb ⟨y, rfl, _, hch, ht⟩
        have HOWN2 := Lib.hid (HOWN1.out.turn ht (Nat.le_refl _) hg)
        have HT2 := Lib.hid (HT1.out.trans (ht.mono hsz1))
        have HCH2 := Lib.hid hch
        have hsz2 := HT2.out.size
        clear hch ht
        by_cases hy : y = 0
        · subst hy
          go_wp2_with fail
          refine (one_lit [0, -1] HCH2.out (by omega) rfl rfl rfl (by decide) (by decide) (by decide)).mono ?_
          rintro e wc ⟨z, hz, rfl, hch, ht⟩
          have hz3 : -1 ≤ z ∧ z ≤ 60 := by simp at hz; omega
          clear hz
          have HOWN3 := Lib.hid (HOWN2.out.turn ht (Nat.le_refl _) hg)
          have HT3 := Lib.hid (HT2.out.trans (ht.mono hsz2))
          have HCH3 := Lib.hid hch
          have hsz3 := HT3.out.size
          clear hch ht
          go_wp2_with (at_builtin; refine wpList_append_ints rfl (.tmp 30) (.tmp 32) rfl w.heap.size (.slice A2 xs.length c2) xs.length _ rfl (HOWN3.out.alloc _) (some ⟨wc.heap.size, 0, none⟩) 1 1 [z] rfl (one_int wc z (by omega) (by omega)) (by omega) (by simp; omega) ?_)
          intro v' w' hown' hg'
          have hbe' := ((HT3.out.step (Below.alloc (Below.refl _ _) (Nat.le_refl _) _) hsz3)).trans (Turn.of_below (below_grown (HOWN3.out.alloc (.cells #[.int .i64 z] 3)) hg' (by simp; omega)) (Nat.le_refl _))
          have hbc := below_grown (HOWN3.out.alloc (.cells #[.int .i64 z] 3)) hg' (by simp; omega)
          have hch' := (HCH3.out.alloc (.cells #[.int .i64 z] 3)).below hbc hg
          obtain ⟨A3, c3, rfl, _, _⟩ := hown'.ints (fun y hy => by
            rcases List.mem_append.1 hy with h2 | h2
            · have := HX.out y h2; unfold okInt; omega
            · simp at h2; subst h2; unfold okInt; omega)
          have hxs' : ∀ y ∈ xs ++ [z], -1 ≤ y ∧ y ≤ 60 := fun y hy => by
            rcases List.mem_append.1 hy with h2 | h2
            · exact HX.out y h2
            · simp at h2; subst h2; exact hz3
          have HO' := Lib.hid hown'
          have HB' := Lib.hid hbe'
          have HC' := Lib.hid hch'
          have HX' := Lib.hid hxs'
          clear hown' hbe' hg' hch' hbc hxs'
          go_wp2
          go_roundw
          case rel => exact ⟨A3, xs.length + 1, c3, j - 1, xs ++ [z], rfl, by go_num, by omega, by simp, HX'.out, HO'.out, HC'.out.more (by omega), HB'.out⟩
          case measure => simp [intOf]; omega
        · have hyb : (y == 0) = false := by simp [hy]
          go_wp2_with (at_builtin; refine wpList_append_ints rfl (.tmp 30) (.tmp 32) rfl w.heap.size (.slice A2 xs.length c2) xs.length _ rfl (HOWN2.out.alloc _) (some ⟨wb.heap.size, 0, none⟩) 1 1 [x] rfl (one_int wb x (by omega) (by omega)) (by omega) (by simp; omega) ?_)
          intro v' w' hown' hg'
          have hbe' := ((HT2.out.step (Below.alloc (Below.refl _ _) (Nat.le_refl _) _) hsz2)).trans (Turn.of_below (below_grown (HOWN2.out.alloc (.cells #[.int .i64 x] 3)) hg' (by simp; omega)) (Nat.le_refl _))
          have hbc := below_grown (HOWN2.out.alloc (.cells #[.int .i64 x] 3)) hg' (by simp; omega)
          have hch' := (HCH2.out.alloc (.cells #[.int .i64 x] 3)).below hbc hg
          obtain ⟨A3, c3, rfl, _, _⟩ := hown'.ints (fun y hy => by
            rcases List.mem_append.1 hy with h2 | h2
            · have := HX.out y h2; unfold okInt; omega
            · simp at h2; subst h2; unfold okInt; omega)
          have hxs' : ∀ y ∈ xs ++ [x], -1 ≤ y ∧ y ≤ 60 := fun y hy => by
            rcases List.mem_append.1 hy with h2 | h2
            · exact HX.out y h2
            · simp at h2; subst h2; exact hx3
          have HO' := Lib.hid hown'
          have HB' := Lib.hid hbe'
          have HC' := Lib.hid hch'
          have HX' := Lib.hid hxs'
          clear hown' hbe' hg' hch' hbc hxs'
          go_wp2
          go_roundw
          case rel => exact ⟨A3, xs.length + 1, c3, j - 1, xs ++ [x], rfl, by go_num, by omega, by simp, HX'.out, HO'.out, HC'.out.more (by omega), HB'.out⟩
          case measure => simp [intOf]; omega
    · go_wp2
      go_ret
      have hl := HX.out
      exact ⟨_, xs, rfl, ⟨by omega, hl⟩, HOWN0.out, HCH0.out.more (by omega), HT0.out⟩
end Go.Proofs.Ytmjmplfhedknhaa
