/- Contracts of the model's CutDevice. -/
import Derived.Test.YtdgfcbnfhengiaaDoorC1i
namespace Go.Proofs.YtdgfcbnfhengiaaDoor
open Go.ChangeShapes Go.WideShapes Go.ChangeAt Go.RowKit
set_option linter.unusedSimpArgs false
set_option linter.unusedVariables false

def lenX : Value → Nat | .slice _ n _ => n | _ => 0
theorem one_zero (w : World) : Ints (w.alloc (.cells #[.int .i64 0] 3)) w.heap.size (w.heap.size + 1) (some ⟨w.heap.size, 0, none⟩) 1 [0] :=
  Ints.of_cells (xs := [0]) (Go.Deep.blk_alloc_new _ _) (by simp) (by intro x hx; simp at hx; subst hx; unfold okInt; omega) (Nat.le_refl _) (by omega)

set_option maxHeartbeats 2000000 in
theorem sCut_any {A : Option Addr} {n c m : Nat} {xs : List Int} {w : World} {L B : Nat} (h : Ints w L B A n xs) (hB : B ≤ w.heap.size) (hn : n ≤ 1048576) (hm : m ≤ 60) (hnc : n ≤ c) :
    Calls Tryd.prog 72 #[.slice A n c, .int .i64 m] w (OwnPost (cutL xs m) w) := by
  have HL := Lib.hid h.len
  have hok := Lib.hid h.ok
  have H := Lib.hid h
  clear h
  have hcase : ∃ t : Nat, t ≤ n ∧ cutL xs m = xs.take t ++ List.replicate (m - t) 0 ∧ ((m < n ∧ t = m) ∨ (n < m ∧ t = n) ∨ (m = n ∧ t = n)) ∧ (xs.take t).length = t ∧ t ≤ m := by
    have hl := HL.out
    by_cases h1 : m < n
    · exact ⟨m, by omega, by rw [cutL, show m - xs.length = m - m from by omega], .inl ⟨h1, rfl⟩, by rw [List.length_take]; omega, by omega⟩
    · refine ⟨n, Nat.le_refl _, ?_, by omega, by rw [List.length_take]; omega, by omega⟩
      rw [cutL, ← hl, List.take_of_length_le (by omega), List.take_of_length_le (by omega)]
  obtain ⟨t, ht, hcut, hcase, htl, htm⟩ := hcase
  have HC := Lib.hid hcut
  have HT := Lib.hid htl
  clear hcut htl
  have hpre : Calls Tryd.prog 100 #[.slice A t c] w (OwnPost (xs.take t) w) := copyInts_own (H.out.take ht) hB (by omega)
  have HP := Lib.hid hpre
  clear hpre
  rcases hcase with ⟨h1, h2⟩ | ⟨h1, h2⟩ | ⟨h1, h2⟩
  · have h3 := h2.symm
    subst h3
    go_enter Tryd.func72, Tryd.ntmps72
    go_wp2_with fail
    refine HP.out.mono ?_
    rintro e w1 ⟨v1, rfl, hb1, hown1⟩
    rw [HT.out] at hown1
    obtain ⟨A1, c1, rfl, _, _⟩ := hown1.ints (fun x hx => hok.out x (List.mem_of_mem_take hx))
    have HB1 := Lib.hid hb1
    have HO1 := Lib.hid hown1
    clear hb1 hown1
    go_wp2
    go_loopw [5] (fun o wr => ∃ A2 k c2, o = .slice A2 k c2 ∧ m ≤ k ∧ k ≤ m ∧ Hid (OwnI wr w.heap.size (.slice A2 k c2) k (xs.take m ++ List.replicate (k - m) 0)) ∧ Hid (Below w.heap.size w wr)) (fun o _ => m - lenX o)
    case atStart => exact ⟨A1, m, c1, rfl, Nat.le_refl _, htm, by rw [Nat.sub_self, List.replicate_zero, List.append_nil]; exact HO1.out, HB1.out⟩
    case round =>
      obtain ⟨A2, k, c2, rfl, hk1, hk2, hown, hbe⟩ := hrel
      by_cases hlt : k < m
      · have hs := hbe.out.size
        have hkl : ∀ u : Nat, u ≤ k → List.replicate (k - u) (0 : Int) ++ [0] = List.replicate (k + 1 - u) 0 := fun u hu => by rw [show k + 1 - u = (k - u) + 1 from by omega, List.replicate_succ']
        have HK := Lib.hid hkl
        clear hkl
        first
          | (exfalso; omega)
          | (go_wp2_with (at_builtin; refine wpList_append_ints rfl (.tmp 17) (.tmp 18) rfl w.heap.size (.slice A2 k c2) k _ rfl (hown.out.alloc _) (some ⟨wr.heap.size, 0, none⟩) 1 1 [0] rfl (one_zero wr) (by omega) (by simp; omega) ?_)
             intro v' w' hown' hg'
             have hbe' := (hbe.out.alloc hs (.cells #[.int .i64 0] 3)).trans (below_grown (hown.out.alloc _) hg' (by simp; omega))
             rw [HK.out _ hk1] at hown'
             obtain ⟨A3, c3, rfl, _, _⟩ := hown'.ints (fun x hx => by
               rcases List.mem_append.1 hx with h2 | h2
               · exact hok.out x (List.mem_of_mem_take h2)
               · rw [List.eq_of_mem_replicate h2]; unfold okInt; omega)
             have HO' := Lib.hid hown'
             have HB' := Lib.hid hbe'
             clear hown' hbe' hg'
             go_wp2
             go_roundw
             case rel => exact ⟨A3, k + 1, c3, rfl, by omega, by omega, HO', HB'⟩
             case measure => simp [lenX]; omega)
      · go_wp2
        go_ret
        obtain rfl : k = m := by omega
        refine ⟨_, rfl, hbe.out, ?_⟩
        rw [HC.out]
        have hl := hown.out.len
        rw [← hl]
        exact hown.out
  · have h3 := h2.symm
    subst h3
    go_enter Tryd.func72, Tryd.ntmps72
    go_wp2_with fail
    refine HP.out.mono ?_
    rintro e w1 ⟨v1, rfl, hb1, hown1⟩
    rw [HT.out] at hown1
    obtain ⟨A1, c1, rfl, _, _⟩ := hown1.ints (fun x hx => hok.out x (List.mem_of_mem_take hx))
    have HB1 := Lib.hid hb1
    have HO1 := Lib.hid hown1
    clear hb1 hown1
    go_wp2
    go_loopw [5] (fun o wr => ∃ A2 k c2, o = .slice A2 k c2 ∧ n ≤ k ∧ k ≤ m ∧ Hid (OwnI wr w.heap.size (.slice A2 k c2) k (xs.take n ++ List.replicate (k - n) 0)) ∧ Hid (Below w.heap.size w wr)) (fun o _ => m - lenX o)
    case atStart => exact ⟨A1, n, c1, rfl, Nat.le_refl _, htm, by rw [Nat.sub_self, List.replicate_zero, List.append_nil]; exact HO1.out, HB1.out⟩
    case round =>
      obtain ⟨A2, k, c2, rfl, hk1, hk2, hown, hbe⟩ := hrel
      by_cases hlt : k < m
      · have hs := hbe.out.size
        have hkl : ∀ u : Nat, u ≤ k → List.replicate (k - u) (0 : Int) ++ [0] = List.replicate (k + 1 - u) 0 := fun u hu => by rw [show k + 1 - u = (k - u) + 1 from by omega, List.replicate_succ']
        have HK := Lib.hid hkl
        clear hkl
        first
          | (exfalso; omega)
          | (go_wp2_with (at_builtin; refine wpList_append_ints rfl (.tmp 17) (.tmp 18) rfl w.heap.size (.slice A2 k c2) k _ rfl (hown.out.alloc _) (some ⟨wr.heap.size, 0, none⟩) 1 1 [0] rfl (one_zero wr) (by omega) (by simp; omega) ?_)
             intro v' w' hown' hg'
             have hbe' := (hbe.out.alloc hs (.cells #[.int .i64 0] 3)).trans (below_grown (hown.out.alloc _) hg' (by simp; omega))
             rw [HK.out _ hk1] at hown'
             obtain ⟨A3, c3, rfl, _, _⟩ := hown'.ints (fun x hx => by
               rcases List.mem_append.1 hx with h2 | h2
               · exact hok.out x (List.mem_of_mem_take h2)
               · rw [List.eq_of_mem_replicate h2]; unfold okInt; omega)
             have HO' := Lib.hid hown'
             have HB' := Lib.hid hbe'
             clear hown' hbe' hg'
             go_wp2
             go_roundw
             case rel => exact ⟨A3, k + 1, c3, rfl, by omega, by omega, HO', HB'⟩
             case measure => simp [lenX]; omega)
      · go_wp2
        go_ret
        obtain rfl : k = m := by omega
        refine ⟨_, rfl, hbe.out, ?_⟩
        rw [HC.out]
        have hl := hown.out.len
        rw [← hl]
        exact hown.out
  · have h3 := h2.symm
    subst h3
    go_enter Tryd.func72, Tryd.ntmps72
    go_wp2_with fail
    refine HP.out.mono ?_
    rintro e w1 ⟨v1, rfl, hb1, hown1⟩
    rw [HT.out] at hown1
    obtain ⟨A1, c1, rfl, _, _⟩ := hown1.ints (fun x hx => hok.out x (List.mem_of_mem_take hx))
    have HB1 := Lib.hid hb1
    have HO1 := Lib.hid hown1
    clear hb1 hown1
    go_wp2
    go_loopw [5] (fun o wr => ∃ A2 k c2, o = .slice A2 k c2 ∧ n ≤ k ∧ k ≤ m ∧ Hid (OwnI wr w.heap.size (.slice A2 k c2) k (xs.take n ++ List.replicate (k - n) 0)) ∧ Hid (Below w.heap.size w wr)) (fun o _ => m - lenX o)
    case atStart => exact ⟨A1, n, c1, rfl, Nat.le_refl _, htm, by rw [Nat.sub_self, List.replicate_zero, List.append_nil]; exact HO1.out, HB1.out⟩
    case round =>
      obtain ⟨A2, k, c2, rfl, hk1, hk2, hown, hbe⟩ := hrel
      by_cases hlt : k < m
      · have hs := hbe.out.size
        have hkl : ∀ u : Nat, u ≤ k → List.replicate (k - u) (0 : Int) ++ [0] = List.replicate (k + 1 - u) 0 := fun u hu => by rw [show k + 1 - u = (k - u) + 1 from by omega, List.replicate_succ']
        have HK := Lib.hid hkl
        clear hkl
        first
          | (exfalso; omega)
          | (go_wp2_with (at_builtin; refine wpList_append_ints rfl (.tmp 17) (.tmp 18) rfl w.heap.size (.slice A2 k c2) k _ rfl (hown.out.alloc _) (some ⟨wr.heap.size, 0, none⟩) 1 1 [0] rfl (one_zero wr) (by omega) (by simp; omega) ?_)
             intro v' w' hown' hg'
             have hbe' := (hbe.out.alloc hs (.cells #[.int .i64 0] 3)).trans (below_grown (hown.out.alloc _) hg' (by simp; omega))
             rw [HK.out _ hk1] at hown'
             obtain ⟨A3, c3, rfl, _, _⟩ := hown'.ints (fun x hx => by
               rcases List.mem_append.1 hx with h2 | h2
               · exact hok.out x (List.mem_of_mem_take h2)
               · rw [List.eq_of_mem_replicate h2]; unfold okInt; omega)
             have HO' := Lib.hid hown'
             have HB' := Lib.hid hbe'
             clear hown' hbe' hg'
             go_wp2
             go_roundw
             case rel => exact ⟨A3, k + 1, c3, rfl, by omega, by omega, HO', HB'⟩
             case measure => simp [lenX]; omega)
      · go_wp2
        go_ret
        obtain rfl : k = m := by omega
        refine ⟨_, rfl, hbe.out, ?_⟩
        rw [HC.out]
        have hl := hown.out.len
        rw [← hl]
        exact hown.out

end Go.Proofs.YtdgfcbnfhengiaaDoor
