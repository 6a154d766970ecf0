/- Contracts of the drawing functions: a script. -/
import Derived.Test.YtdiebkaedjlckaaDoorD4
import Derived.IntWalk
import Derived.Deep.RegionHeld3
namespace Go.Proofs.YtdiebkaedjlckaaDoor
section
open Go.ChangeShapes Go.WideShapes Go.ChangeAt Go.RowKit
set_option linter.unusedSimpArgs false
set_option linter.unusedVariables false

set_option maxHeartbeats 2000000 in
theorem someScript_any {g P : Nat} {w : World} (h : Ch w g P) (hP : P ≤ 900000) :
    Calls Tryd.prog 144 #[.pointer (some ⟨g, 0, none⟩)] w (RowPost g (P + 50) (fun xs => xs.length ≤ 6 ∧ ∀ x ∈ xs, -1 ≤ x ∧ x ≤ 60) w) := by
  have hg := h.lt
  have HCH := Lib.hid (h.alloc (.cells #[] 3))
  clear h
  go_enter Tryd.func144, Tryd.ntmps144
  go_wp2_with fail
  refine (pick_any HCH.out (by omega) (by decide)).mono ?_
  rintro e w1 ⟨r, rfl, ⟨hr0, hr1, _⟩, hch, ht⟩
  have HC := Lib.hid hch
  have HT := Lib.hid ((Turn.of_below (Below.alloc (Below.refl _ _) (Nat.le_refl _) _) (Nat.le_refl _)).trans (ht.mono (by simp)))
  have HO := Lib.hid ((OwnI.made w (Nat.le_refl _)).turn ht (Nat.le_refl _) hg)
  have hs1 := HT.out.size
  clear hch ht HCH
  go_wp2_with fail
  refine (one_lit [3, 4, 2, 6, 0, 1] HC.out (by omega) rfl rfl rfl (by decide) (by decide) (by decide)).mono ?_
  rintro e w2 ⟨x, hx, rfl, hch, ht⟩
  have hx2 : 0 ≤ x ∧ x ≤ 6 := by simp at hx; omega
  obtain ⟨N, rfl⟩ := Int.eq_ofNat_of_zero_le hx2.1
  have HC2 := Lib.hid hch
  have HT2 := Lib.hid (HT.out.trans (ht.mono hs1))
  have HO2 := Lib.hid (HO.out.turn ht (Nat.le_refl _) hg)
  clear hch ht hx HC HT HO
  go_wp2
  generalize (r == 0) = rough at *
  go_loopw [3, 5] (fun o i wr => ∃ A2 k c2 j xs, o = .slice A2 k c2 ∧ i = .int .i64 ((j : Nat) : Int) ∧ k + j ≤ 6 ∧ k = xs.length ∧ (∀ x ∈ xs, -1 ≤ x ∧ x ≤ 60) ∧ Hid (OwnI wr w.heap.size (.slice A2 k c2) k xs) ∧ Hid (Ch wr g (P + 2 + 3 * k)) ∧ Hid (Turn w.heap.size g w wr)) (fun _ i _ => (intOf i).toNat)
  case atStart => exact ⟨_, 0, 0, N, [], rfl, rfl, by omega, rfl, by simp, HO2.out, HC2.out, HT2.out⟩
  case round =>
    obtain ⟨A2, k, c2, j, xs, rfl, rfl, hkj, hkl, hxs, HOWN0, HCH0, HT0⟩ := hrel
    subst hkl
    have HX := Lib.hid hxs
    clear hxs
    have hsz0 := HT0.out.size
    by_cases hlt : (0 : Int) < (j : Int)
    · go_wp2_with fail
      refine (one_lit [1, 2, 3, 5, 8] HCH0.out (by omega) rfl rfl rfl (by decide) (by decide) (by decide)).mono ?_
      rintro e wa ⟨x, hx, rfl, hch, ht⟩
      have hx3 : -1 ≤ x ∧ x ≤ 60 := by simp at hx; omega
      clear hx
      have HOWN1 := Lib.hid (HOWN0.out.turn ht (Nat.le_refl _) hg)
      have HT1 := Lib.hid (HT0.out.trans (ht.mono hsz0))
      have HCH1 := Lib.hid hch
      have hsz1 := HT1.out.size
      clear hch ht
      cases rough
      · skip
        go_wp2_with (at_builtin; refine wpList_append_ints rfl (.tmp 30) (.tmp 32) rfl w.heap.size (.slice A2 xs.length c2) xs.length _ rfl (HOWN1.out.alloc _) (some ⟨wa.heap.size, 0, none⟩) 1 1 [x] rfl (one_int wa x (by omega) (by omega)) (by omega) (by simp; omega) ?_)
        intro v' w' hown' hg'
        have hbe' := ((HT1.out.step (Below.alloc (Below.refl _ _) (Nat.le_refl _) _) hsz1)).trans (Turn.of_below (below_grown (HOWN1.out.alloc (.cells #[.int .i64 x] 3)) hg' (by simp; omega)) (Nat.le_refl _))
        have hbc := below_grown (HOWN1.out.alloc (.cells #[.int .i64 x] 3)) hg' (by simp; omega)
        have hch' := (HCH1.out.alloc (.cells #[.int .i64 x] 3)).below hbc hg
        obtain ⟨A3, c3, rfl, _, _⟩ := hown'.ints (fun y hy => by
          rcases List.mem_append.1 hy with h2 | h2
          · have := HX.out y h2; unfold okInt; omega
          · simp at h2; subst h2; unfold okInt; omega)
        have hxs' : ∀ y ∈ xs ++ [x], -1 ≤ y ∧ y ≤ 60 := fun y hy => by
          rcases List.mem_append.1 hy with h2 | h2
          · exact HX.out y h2
          · simp at h2; subst h2; exact hx3
        have HO' := Lib.hid hown'
        have HB' := Lib.hid hbe'
        have HC' := Lib.hid hch'
        have HX' := Lib.hid hxs'
        clear hown' hbe' hg' hch' hbc hxs'
        go_wp2
        go_roundw
        case rel => exact ⟨A3, xs.length + 1, c3, j - 1, xs ++ [x], rfl, by go_num, by omega, by simp, HX'.out, HO'.out, HC'.out.more (by omega), HB'.out⟩
        case measure => simp [intOf]; omega
      · go_wp2_with fail
        refine (pick_any HCH1.out (by omega) (by decide)).mono ?_
        rintro e wb ⟨y, rfl, _, hch, ht⟩
        have HOWN2 := Lib.hid (HOWN1.out.turn ht (Nat.le_refl _) hg)
        have HT2 := Lib.hid (HT1.out.trans (ht.mono hsz1))
        have HCH2 := Lib.hid hch
        have hsz2 := HT2.out.size
        clear hch ht
        by_cases hy : y = 0
        · subst hy
          go_wp2_with fail
          refine (one_lit [0, -1] HCH2.out (by omega) rfl rfl rfl (by decide) (by decide) (by decide)).mono ?_
          rintro e wc ⟨z, hz, rfl, hch, ht⟩
          have hz3 : -1 ≤ z ∧ z ≤ 60 := by simp at hz; omega
          clear hz
          have HOWN3 := Lib.hid (HOWN2.out.turn ht (Nat.le_refl _) hg)
          have HT3 := Lib.hid (HT2.out.trans (ht.mono hsz2))
          have HCH3 := Lib.hid hch
          have hsz3 := HT3.out.size
          clear hch ht
          go_wp2_with (at_builtin; refine wpList_append_ints rfl (.tmp 30) (.tmp 32) rfl w.heap.size (.slice A2 xs.length c2) xs.length _ rfl (HOWN3.out.alloc _) (some ⟨wc.heap.size, 0, none⟩) 1 1 [z] rfl (one_int wc z (by omega) (by omega)) (by omega) (by simp; omega) ?_)
          intro v' w' hown' hg'
          have hbe' := ((HT3.out.step (Below.alloc (Below.refl _ _) (Nat.le_refl _) _) hsz3)).trans (Turn.of_below (below_grown (HOWN3.out.alloc (.cells #[.int .i64 z] 3)) hg' (by simp; omega)) (Nat.le_refl _))
          have hbc := below_grown (HOWN3.out.alloc (.cells #[.int .i64 z] 3)) hg' (by simp; omega)
          have hch' := (HCH3.out.alloc (.cells #[.int .i64 z] 3)).below hbc hg
          obtain ⟨A3, c3, rfl, _, _⟩ := hown'.ints (fun y hy => by
            rcases List.mem_append.1 hy with h2 | h2
            · have := HX.out y h2; unfold okInt; omega
            · simp at h2; subst h2; unfold okInt; omega)
          have hxs' : ∀ y ∈ xs ++ [z], -1 ≤ y ∧ y ≤ 60 := fun y hy => by
            rcases List.mem_append.1 hy with h2 | h2
            · exact HX.out y h2
            · simp at h2; subst h2; exact hz3
          have HO' := Lib.hid hown'
          have HB' := Lib.hid hbe'
          have HC' := Lib.hid hch'
          have HX' := Lib.hid hxs'
          clear hown' hbe' hg' hch' hbc hxs'
          go_wp2
          go_roundw
          case rel => exact ⟨A3, xs.length + 1, c3, j - 1, xs ++ [z], rfl, by go_num, by omega, by simp, HX'.out, HO'.out, HC'.out.more (by omega), HB'.out⟩
          case measure => simp [intOf]; omega
        · have hyb : (y == 0) = false := by simp [hy]
          go_wp2_with (at_builtin; refine wpList_append_ints rfl (.tmp 30) (.tmp 32) rfl w.heap.size (.slice A2 xs.length c2) xs.length _ rfl (HOWN2.out.alloc _) (some ⟨wb.heap.size, 0, none⟩) 1 1 [x] rfl (one_int wb x (by omega) (by omega)) (by omega) (by simp; omega) ?_)
          intro v' w' hown' hg'
          have hbe' := ((HT2.out.step (Below.alloc (Below.refl _ _) (Nat.le_refl _) _) hsz2)).trans (Turn.of_below (below_grown (HOWN2.out.alloc (.cells #[.int .i64 x] 3)) hg' (by simp; omega)) (Nat.le_refl _))
          have hbc := below_grown (HOWN2.out.alloc (.cells #[.int .i64 x] 3)) hg' (by simp; omega)
          have hch' := (HCH2.out.alloc (.cells #[.int .i64 x] 3)).below hbc hg
          obtain ⟨A3, c3, rfl, _, _⟩ := hown'.ints (fun y hy => by
            rcases List.mem_append.1 hy with h2 | h2
            · have := HX.out y h2; unfold okInt; omega
            · simp at h2; subst h2; unfold okInt; omega)
          have hxs' : ∀ y ∈ xs ++ [x], -1 ≤ y ∧ y ≤ 60 := fun y hy => by
            rcases List.mem_append.1 hy with h2 | h2
            · exact HX.out y h2
            · simp at h2; subst h2; exact hx3
          have HO' := Lib.hid hown'
          have HB' := Lib.hid hbe'
          have HC' := Lib.hid hch'
          have HX' := Lib.hid hxs'
          clear hown' hbe' hg' hch' hbc hxs'
          go_wp2
          go_roundw
          case rel => exact ⟨A3, xs.length + 1, c3, j - 1, xs ++ [x], rfl, by go_num, by omega, by simp, HX'.out, HO'.out, HC'.out.more (by omega), HB'.out⟩
          case measure => simp [intOf]; omega
    · go_wp2
      go_ret
      have hl := HX.out
      exact ⟨_, xs, rfl, ⟨by omega, hl⟩, HOWN0.out, HCH0.out.more (by omega), HT0.out⟩
end
section
open Go.ChangeShapes Go.WideShapes Go.ChangeAt Go.RowKit
set_option linter.unusedSimpArgs false
set_option linter.unusedVariables false

/-- A device of the call's own, drawn by the chooser in block g. -/
def DevDraw (L g P : Nat) (w : World) (e : Ending) (w' : World) : Prop :=
  ∃ (A : Option Addr) (n c : Nat) (A' : Option Addr) (n' c' : Nat) (D S : List Int) (p q : Int), e = .returned (.agg #[.slice (A) n c, .int .i64 (p), .slice (A') n' c', .int .i64 (q)]) ∧ n = D.length ∧ n' = S.length ∧ n ≤ 61 ∧ n' ≤ L ∧ (∀ x ∈ D, -1 ≤ x ∧ x ≤ 256) ∧ (∀ x ∈ S, -2 ≤ x ∧ x ≤ 61) ∧ (-1 ≤ p ∧ p ≤ 61) ∧ (-1 ≤ q ∧ q ≤ 1001) ∧
    OwnI w' w.heap.size (.slice A n c) n D ∧ OwnI w' w.heap.size (.slice A' n' c') n' S ∧ ((Value.slice A n c).ownBlock = none ∨ (Value.slice A n c).ownBlock ≠ (Value.slice A' n' c').ownBlock) ∧ Ch w' g P ∧ Turn w.heap.size g w w'

theorem OwnI.put_ {w : World} {base n b o : Nat} {v : Value} {xs : List Int} (h : OwnI w base v n xs) (hk : ∀ k, v.ownBlock = some k → k ≠ b) (u : Value) : OwnI (w.setCell ⟨b, o, none⟩ u) base v n xs :=
  World.ownsRow.kept (row := some b) h ⟨rfl, rfl, rfl, by simp, fun k _ hne => Below.heap_setCell w ⟨b, o, none⟩ u k (by rintro rfl; exact hne rfl)⟩ (by
    cases e : v.ownBlock with
    | none => exact .inl rfl
    | some k => exact .inr (by intro hk'; injection hk' with hk'; exact hk k e hk'))

theorem OwnI.mono_ {w : World} {base base' n : Nat} {v : Value} {xs : List Int} (h : OwnI w base v n xs) (hb : base' ≤ base) : OwnI w base' v n xs := by
  refine ⟨h.1, ?_⟩
  rcases h.2 with h2 | ⟨g, cap, cur, rfl, hg, rest⟩
  · exact .inl h2
  · exact .inr ⟨g, cap, cur, rfl, by omega, rest⟩

theorem at_list {r l : Int} (h1 : 0 ≤ r) (h2 : r ≤ 41) (h3 : 0 ≤ l ∧ l ≤ 40) : ∀ x ∈ [0, 0, r, l, if l + 2 < 60 then l + 2 else 60], -1000000 ≤ x ∧ x ≤ 1000000 ∧ 0 ≤ x ∧ x ≤ 60 := fun x hx => by
  rw [if_pos (by omega)] at hx
  simp at hx
  omega

theorem at_list2 {r l : Int} (h1 : 0 ≤ r) (h2 : r ≤ 41) (h3 : 0 ≤ l ∧ l ≤ 40) : ∀ x ∈ [0, 0, r, l, l + 2], -1000000 ≤ x ∧ x ≤ 1000000 ∧ 0 ≤ x ∧ x ≤ 60 := fun x hx => by
  simp at hx
  omega

set_option maxHeartbeats 2000000 in
theorem goodDevice_any {g P : Nat} {w : World} (h : Ch w g P) (hP : P ≤ 800000) :
    Calls Tryd.prog 134 #[.pointer (some ⟨g, 0, none⟩)] w (DevDraw 6 g (P + 200) w) := by
  have hg := h.lt
  have HCH := Lib.hid (h.alloc (.cells #[.slice none 0 0, .int .i64 0, .slice none 0 0, .int .i64 0] 28))
  have X0 := Lib.hid (Box.new w 28 [.slice none 0 0, .int .i64 0, .slice none 0 0, .int .i64 0])
  clear h
  go_enter Tryd.func134, Tryd.ntmps134
  go_wp2_with fail
  refine (someBytes_any HCH.out (by omega)).mono ?_
  rintro e w1 ⟨v, D, rfl, ⟨hD1, hD2⟩, hown, hch, ht⟩
  rw [World.size_alloc] at hown ht
  obtain ⟨A, c, rfl, hnc, _⟩ := hown.ints (fun x hx => by have := hD2 x hx; unfold okInt; omega)
  have HD2 := Lib.hid hD2
  have X1 := Lib.hid (X0.out.turn ht (by omega) (by omega))
  have HC1 := Lib.hid hch
  have hs1 := ht.size
  rw [World.size_alloc] at hs1
  have HT1 := Lib.hid ((Turn.of_below (B := w.heap.size) (Below.alloc (Below.refl _ w) (Nat.le_refl _) (.cells #[.slice none 0 0, .int .i64 0, .slice none 0 0, .int .i64 0] 28)) (Nat.le_refl _)).trans (ht.mono (by omega)))
  have HO1 := Lib.hid hown
  clear hown hch ht HCH X0 hD2
  go_wp2_with fail
  refine (someScript_any HC1.out (by omega)).mono ?_
  rintro e w2 ⟨v', S, rfl, ⟨hS1, hS2⟩, hown, hch, ht⟩
  obtain ⟨A', c', rfl, hnc', _⟩ := hown.ints (fun x hx => by have := hS2 x hx; unfold okInt; omega)
  have HS2 := Lib.hid hS2
  have X2 := Lib.hid (X1.out.turn ht (by omega) (by omega))
  have HC2 := Lib.hid hch
  have hs2 := ht.size
  have HT2 := Lib.hid (HT1.out.trans (ht.mono (by omega)))
  have HO2 := Lib.hid (HO1.out.turn ht (Nat.le_refl _) (by omega))
  have HP2 := Lib.hid hown
  have hne : (Value.slice A D.length c).ownBlock = none ∨ (Value.slice A D.length c).ownBlock ≠ (Value.slice A' S.length c').ownBlock := by
    cases e : (Value.slice A D.length c).ownBlock with
    | none => exact .inl rfl
    | some k =>
      refine .inr fun hk => ?_
      have h1 := (HO1.out.lt k e).2
      have h2 := (hown.lt k hk.symm).1
      omega
  have HNE := Lib.hid hne
  have HBD := Lib.hid fun k hk => (HO2.out.lt k hk).2
  have HBS := Lib.hid fun k hk => (hown.lt k hk).2
  clear hown hch ht HC1 X1 hS2 HT1 HO1 hne
  have x0 := (X2.out.2 0 _ rfl).1; have x1 := (X2.out.2 1 _ rfl).1; have x2 := (X2.out.2 2 _ rfl).1; have x3 := (X2.out.2 3 _ rfl).1
  have f0 := (X2.out.2 0 _ rfl).2; have f1 := (X2.out.2 1 _ rfl).2; have f2 := (X2.out.2 2 _ rfl).2; have f3 := (X2.out.2 3 _ rfl).2
  have HC3 := Lib.hid (HC2.out.alloc (.cells #[.slice (A) D.length c, .int .i64 (0), .slice (A') S.length c', .int .i64 (0)] 28))
  have X3 := Lib.hid (Box.new w2 28 [.slice (A) D.length c, .int .i64 (0), .slice (A') S.length c', .int .i64 (0)])
  have HO3 := Lib.hid (HO2.out.alloc (.cells #[.slice (A) D.length c, .int .i64 (0), .slice (A') S.length c', .int .i64 (0)] 28))
  have HP3 := Lib.hid (HP2.out.alloc (.cells #[.slice (A) D.length c, .int .i64 (0), .slice (A') S.length c', .int .i64 (0)] 28))
  have HT3 := Lib.hid (HT2.out.step (Below.alloc (Below.refl _ _) (Nat.le_refl _) (.cells #[.slice (A) D.length c, .int .i64 (0), .slice (A') S.length c', .int .i64 (0)] 28)) (by omega))
  have R3 := Lib.hid (X2.out.alloc (.cells #[.slice (A) D.length c, .int .i64 (0), .slice (A') S.length c', .int .i64 (0)] 28))
  go_wp2_with fail
  clear x0 x1 x2 x3
  clear f0 f1 f2 f3
  clear HC2 X2 HO2 HP2 HT2
  have hs3 : (w2.alloc (.cells #[.slice (A) D.length c, .int .i64 (0), .slice (A') S.length c', .int .i64 (0)] 28)).heap.size = w2.heap.size + 1 := by simp
  generalize w2.alloc (.cells #[.slice (A) D.length c, .int .i64 (0), .slice (A') S.length c', .int .i64 (0)] 28) = w3 at *
  have x0 := (X3.out.2 0 _ rfl).1; have x1 := (X3.out.2 1 _ rfl).1; have x2 := (X3.out.2 2 _ rfl).1; have x3 := (X3.out.2 3 _ rfl).1
  have f0 := (X3.out.2 0 _ rfl).2; have f1 := (X3.out.2 1 _ rfl).2; have f2 := (X3.out.2 2 _ rfl).2; have f3 := (X3.out.2 3 _ rfl).2
  have n1 : IntKind.i64.wrap ((D.length : Int) + 1) = (D.length : Int) + 1 := IntWalk.i64_in _ (by omega)
  have n2 : IntKind.i64.wrap ((D.length : Int) + 2) = (D.length : Int) + 2 := IntWalk.i64_in _ (by omega)
  have hm60 : (D.length : Int) + 2 < 60 := by omega
  go_region_held3 (fun w' => w'.cell? ⟨w2.heap.size, 0, none⟩ = some (.slice A D.length c)) (first | go_keep | (rw [World.cell?_setCell_other _ _ _ _ (by simp)]; go_keep))
    (first | ((go_at_call 112; refine (pick_any (m := (D.length : Int) + 1) (w := w3.drew) HC3.out (by omega) (by omega)).mono ?_; rintro e w4 ⟨r, rfl, ⟨hr0, hr1, _⟩, hch, ht⟩; have hr2 := hr1 (by omega); clear x0 x1 x2 x3; clear f0 f1 f2 f3; have HC4 := Lib.hid hch; have X4 := Lib.hid (X3.out.drew.turn ht (by simp; omega) (by omega)); have HT4 := Lib.hid ht; clear hch ht; have x0 := (X4.out.2 0 _ rfl).1; have x1 := (X4.out.2 1 _ rfl).1; have x2 := (X4.out.2 2 _ rfl).1; have x3 := (X4.out.2 3 _ rfl).1; have f0 := (X4.out.2 0 _ rfl).2; have f1 := (X4.out.2 1 _ rfl).2; have f2 := (X4.out.2 2 _ rfl).2; have f3 := (X4.out.2 3 _ rfl).2)) | ((go_at_call 113; (first | refine (one_lit [0, 0, r, (D.length : Int), if (D.length : Int) + 2 < 60 then (D.length : Int) + 2 else 60] HC4.out (by omega) rfl rfl rfl (by simp) (by simp) (fun x hx => by have := at_list (r := r) (l := (D.length : Int)) hr0 (by omega) (by omega) x hx; omega)).mono ?_ | refine (one_lit [0, 0, r, (D.length : Int), (D.length : Int) + 2] HC4.out (by omega) rfl rfl rfl (by simp) (by simp) (fun x hx => by have := at_list2 (r := r) (l := (D.length : Int)) hr0 (by omega) (by omega) x hx; omega)).mono ?_); rintro e w5 ⟨p, hp, rfl, hch, ht⟩; have hp1 : 0 ≤ p ∧ p ≤ 60 := (by first | exact (at_list hr0 (by omega) (by omega) p hp).2.2 | exact (at_list2 hr0 (by omega) (by omega) p hp).2.2); clear x0 x1 x2 x3; clear f0 f1 f2 f3; have HC5 := Lib.hid hch; have X5 := Lib.hid (X4.out.turn ht X4.out.lt (by omega)); have HT5 := Lib.hid ht; clear hch ht hp; have x0 := (X5.out.2 0 _ rfl).1; have x1 := (X5.out.2 1 _ rfl).1; have x2 := (X5.out.2 2 _ rfl).1; have x3 := (X5.out.2 3 _ rfl).1; have f0 := (X5.out.2 0 _ rfl).2; have f1 := (X5.out.2 1 _ rfl).2; have f2 := (X5.out.2 2 _ rfl).2; have f3 := (X5.out.2 3 _ rfl).2)))
  all_goals
    clear n1 n2
    have s4 := HT4.out.size
    have s5 := HT5.out.size
    rw [World.size_drew] at s4
    have HT6 := Lib.hid ((HT3.out.drew.trans (HT4.out.mono (by simp; omega))).trans (HT5.out.mono (by omega)))
    have HO6 := Lib.hid ((HO3.out.drewN 1 |>.turn HT4.out (Nat.le_refl _) (by omega)).turn HT5.out (Nat.le_refl _) (by omega))
    have HP6 := Lib.hid ((HP3.out.drewN 1 |>.turn HT4.out (Nat.le_refl _) (by omega)).turn HT5.out (Nat.le_refl _) (by omega))
    have R6 := Lib.hid ((((R3.out.drew).turn HT4.out (by simp; omega) (by omega)).turn HT5.out (by omega) (by omega)).set_ (o := 1) (show w.heap.size ≠ w2.heap.size by omega) (.int .i64 p))
    clear R3 HT3 HT4 HT5 HO3 HP3 HC3 HC4 X3 X4
    have X6 := Lib.hid (X5.out.put (i := 1) (by simp) (.int .i64 p))
    have HC6 : Hid (Ch (w5.setCell ⟨w2.heap.size, 1, none⟩ (.int .i64 p)) g (P + 100 + 50 + 1 + 1)) := HC5.out.below (below_set (Below.refl w2.heap.size w5) (Nat.le_refl _) _) (by omega)
    have HT7 := Lib.hid (HT6.out.step (below_set (Below.refl w2.heap.size w5) (Nat.le_refl _) (o := 1) (.int .i64 p)) (by omega))
    have HO7 := Lib.hid (HO6.out.put_ (o := 1) (fun k hk => Nat.ne_of_lt (HBD.out k hk)) (.int .i64 p))
    have HP7 := Lib.hid (HP6.out.put_ (o := 1) (fun k hk => Nat.ne_of_lt (HBS.out k hk)) (.int .i64 p))
    clear HO6 HP6 HT6 HC5 X5
    go_wp2_with fail
    clear x0 x1 x2 x3
    clear f0 f1 f2 f3
    have hs6 : (w5.setCell ⟨w2.heap.size, 1, none⟩ (.int .i64 p)).heap.size = w5.heap.size := by simp
    rw [← hs6]
    generalize w5.setCell ⟨w2.heap.size, 1, none⟩ (.int .i64 p) = w6 at *
    refine (one_lit [0, 0, 0, 1, 2] HC6.out (by omega) rfl rfl rfl (by decide) (by decide) (by decide)).mono ?_
    rintro e w7 ⟨q, hq, rfl, hch, ht⟩
    have hq1 : 0 ≤ q ∧ q ≤ 2 := by simp at hq; omega
    have hs7 := ht.size
    have HC8 := Lib.hid hch
    have X8 := Lib.hid (X6.out.turn ht (by omega) (by omega))
    have HT8 := Lib.hid (HT7.out.trans (ht.mono (by omega)))
    have R8 := Lib.hid (R6.out.turn ht (by omega) (by omega))
    have HO8 := Lib.hid (HO7.out.turn ht (Nat.le_refl _) (by omega))
    have HP8 := Lib.hid (HP7.out.turn ht (Nat.le_refl _) (by omega))
    clear R6 hch ht hq HC6 X6 HT7 HO7 HP7
    have x0 := (X8.out.2 0 _ rfl).1; have x1 := (X8.out.2 1 _ rfl).1; have x2 := (X8.out.2 2 _ rfl).1; have x3 := (X8.out.2 3 _ rfl).1
    have f0 := (X8.out.2 0 _ rfl).2; have f1 := (X8.out.2 1 _ rfl).2; have f2 := (X8.out.2 2 _ rfl).2; have f3 := (X8.out.2 3 _ rfl).2
    have r0 := (R8.out.2 0 _ rfl).1; have r1 := (R8.out.2 1 _ rfl).1; have r2 := (R8.out.2 2 _ rfl).1; have r3 := (R8.out.2 3 _ rfl).1
    have g0 := (R8.out.2 0 _ rfl).2; have g1 := (R8.out.2 1 _ rfl).2; have g2 := (R8.out.2 2 _ rfl).2; have g3 := (R8.out.2 3 _ rfl).2
    go_wp2
    refine bodyPost_ret (v := .agg #[.slice (A) D.length c, .int .i64 (p), .slice (A') S.length c', .int .i64 (q)]) (by simp [results, Tryd.results134, go_sem, r0, r1, r2, r3, g0, g1, g2, g3]) rfl ?_
    have k1 : ∀ k, (Value.slice A D.length c).ownBlock = some k → k ≠ w.heap.size := fun k hk => by have := (HO8.out.lt k hk).1; omega
    have k2 : ∀ k, (Value.slice A' S.length c').ownBlock = some k → k ≠ w.heap.size := fun k hk => by have := (HP8.out.lt k hk).1; omega
    refine ⟨A, D.length, c, A', S.length, c', D, S, p, q, rfl, rfl, rfl, by omega, by omega, fun x hx => by have := HD2.out x hx; omega, fun x hx => by have := HS2.out x hx; omega, by omega, by omega, ?_, ?_, HNE.out, ?_, ?_⟩
    · refine OwnI.put_ (OwnI.put_ (OwnI.put_ (OwnI.put_ (OwnI.put_ (OwnI.mono_ HO8.out (by omega)) (fun k hk => Nat.ne_of_lt (HBD.out k hk)) _) k1 _) k1 _) k1 _) k1 _
    · refine OwnI.put_ (OwnI.put_ (OwnI.put_ (OwnI.put_ (OwnI.put_ (OwnI.mono_ HP8.out (by omega)) (fun k hk => Nat.ne_of_lt (HBS.out k hk)) _) k2 _) k2 _) k2 _) k2 _
    · refine Ch.more (Ch.below HC8.out (B := w.heap.size) ?_ (by omega)) (by omega)
      (repeat (with_reducible refine below_set ?_ (by omega) _))
      exact Below.refl _ _
    · refine HT8.out.step (C := w.heap.size) ?_ (by omega)
      (repeat (with_reducible refine below_set ?_ (by omega) _))
      exact Below.refl _ _
end
end Go.Proofs.YtdiebkaedjlckaaDoor
