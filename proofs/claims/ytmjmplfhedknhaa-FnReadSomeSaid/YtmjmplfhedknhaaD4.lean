/- Contracts of the drawing functions: some bytes, a script. -/
import Derived.Test.YtmjmplfhedknhaaD3
import Derived.Test.YtmjmplfhedknhaaApp2
namespace Go.Proofs.Ytmjmplfhedknhaa
open Go.ChangeShapes Go.WideShapes Go.ChangeAt Go.RowKit
set_option linter.unusedSimpArgs false
set_option linter.unusedVariables false

theorem turn_grown {w w1 w' : World} {base n g : Nat} {v : Value} {xs : List Int} (h : OwnI w1 base v n xs) (hg : w1.grownBy w' v.ownBlock) (hb : base ≤ w1.heap.size) (ht : Turn base g w w1) : Turn base g w w' :=
  ht.step (below_grown h hg hb) (Nat.le_refl _)
theorem one_int (w : World) (x : Int) (h1 : -1000000 ≤ x) (h2 : x ≤ 1000000) : Ints (w.alloc (.cells #[.int .i64 x] 3)) w.heap.size (w.heap.size + 1) (some ⟨w.heap.size, 0, none⟩) 1 [x] :=
  Ints.of_box (xs := [x]) (Box.new w _ [.int .i64 x]) rfl (by decide) (by intro y hy; simp at hy; subst hy; unfold okInt; omega)

/-- A row of the call's own, drawn by the chooser in block g. -/
def RowPost (g P : Nat) (Q : List Int → Prop) (w : World) (e : Ending) (w' : World) : Prop :=
  ∃ v xs, e = .returned v ∧ Q xs ∧ OwnI w' w.heap.size v xs.length xs ∧ Ch w' g P ∧ Turn w.heap.size g w w'

set_option maxHeartbeats 2000000 in
theorem someBytes_any {g P : Nat} {w : World} (h : Ch w g P) (hP : P ≤ 900000) :
    Calls Try.prog 90 #[.pointer (some ⟨g, 0, none⟩)] w (RowPost g (P + 100) (fun xs => xs.length ≤ 40 ∧ ∀ x ∈ xs, 0 ≤ x ∧ x ≤ 255) w) := by
  have hg := h.lt
  have HCH := Lib.hid (h.alloc (.cells #[] 3))
  clear h
  go_enter Try.func90, Try.ntmps90
  go_wp2_with fail
  refine (one_lit [6, 8, 4, 12, 20, 1, 0, 40] HCH.out (by omega) (by simp) rfl rfl (by decide) (by decide) (by decide)).mono ?_
  rintro e w1 ⟨x, hx, rfl, hch, ht⟩
  have hx2 : 0 ≤ x ∧ x ≤ 40 := by simp at hx; omega
  obtain ⟨N, rfl⟩ := Int.eq_ofNat_of_zero_le hx2.1
  have HC := Lib.hid hch
  have HT := Lib.hid ((Turn.of_below (Below.alloc (Below.refl _ _) (Nat.le_refl _) _) (Nat.le_refl _)).trans (ht.mono (by simp)))
  have HO := Lib.hid ((OwnI.made w (Nat.le_refl _)).turn ht (Nat.le_refl _) hg)
  clear hch ht hx HCH
  go_wp2
  go_loopw [3, 4] (fun o i wr => ∃ A2 k c2 j xs, o = .slice A2 k c2 ∧ i = .int .i64 ((j : Nat) : Int) ∧ k + j ≤ 40 ∧ k = xs.length ∧ (∀ x ∈ xs, 0 ≤ x ∧ x ≤ 255) ∧ Hid (OwnI wr w.heap.size (.slice A2 k c2) k xs) ∧ Hid (Ch wr g (P + 1 + 2 * k)) ∧ Hid (Turn w.heap.size g w wr)) (fun _ i _ => (intOf i).toNat)
  case atStart => exact ⟨_, 0, 0, N, [], rfl, rfl, by omega, rfl, by simp, HO.out, HC.out, HT.out⟩
  case round =>
    obtain ⟨A2, k, c2, j, xs, rfl, rfl, hkj, hkl, hxs, hown, hch, ht⟩ := hrel
    subst hkl
    have HX := Lib.hid hxs
    clear hxs
    have hsz := ht.out.size
    by_cases hlt : (0 : Int) < (j : Int)
    · go_wp2_with fail
      refine (aByte_any hch.out (by omega)).mono ?_
      rintro e wa ⟨x, hx, rfl, hcha, hta⟩
      have hown1 := hown.out.turn hta (Nat.le_refl _) hg
      have ht1 := ht.out.trans (hta.mono hsz)
      have HOWN1 := Lib.hid hown1
      have HCH1 := Lib.hid hcha
      have HT1 := Lib.hid ht1
      clear hown1 hcha ht1 hta
      have hsz1 := HT1.out.size
      go_wp2_with (at_builtin; refine wpList_append_ints rfl (.tmp 13) (.tmp 16) rfl w.heap.size (.slice A2 xs.length c2) xs.length _ rfl (HOWN1.out.alloc _) (some ⟨wa.heap.size, 0, none⟩) 1 1 [x] rfl (one_int wa x (by omega) (by omega)) (by omega) (by simp; omega) ?_)
      intro v' w' hown' hg'
      have hbe' := ((HT1.out.step (Below.alloc (Below.refl _ _) (Nat.le_refl _) _) hsz1)).trans (Turn.of_below (below_grown (HOWN1.out.alloc (.cells #[.int .i64 x] 3)) hg' (by simp; omega)) (Nat.le_refl _))
      have hbc := below_grown (HOWN1.out.alloc (.cells #[.int .i64 x] 3)) hg' (by simp; omega)
      have hch' := (HCH1.out.alloc (.cells #[.int .i64 x] 3)).below hbc hg
      obtain ⟨A3, c3, rfl, _, _⟩ := hown'.ints (fun y hy => by
        rcases List.mem_append.1 hy with h2 | h2
        · have := HX.out y h2; unfold okInt; omega
        · simp at h2; subst h2; unfold okInt; omega)
      have hxs' : ∀ y ∈ xs ++ [x], 0 ≤ y ∧ y ≤ 255 := fun y hy => by
        rcases List.mem_append.1 hy with h2 | h2
        · exact HX.out y h2
        · simp at h2; subst h2; exact hx
      have HO' := Lib.hid hown'
      have HB' := Lib.hid hbe'
      have HC' := Lib.hid hch'
      have HX' := Lib.hid hxs'
      clear hown' hbe' hg' hch' hbc hxs'
      go_wp2
      go_roundw
      case rel => exact ⟨A3, xs.length + 1, c3, j - 1, xs ++ [x], rfl, by go_num, by omega, by simp, HX'.out, HO'.out, HC'.out.more (by omega), HB'.out⟩
      case measure => simp [intOf]; omega
    · go_wp2
      go_ret
      have hl := HX.out
      exact ⟨_, xs, rfl, ⟨by omega, hl⟩, hown.out, hch.out.more (by omega), ht.out⟩
end Go.Proofs.Ytmjmplfhedknhaa
