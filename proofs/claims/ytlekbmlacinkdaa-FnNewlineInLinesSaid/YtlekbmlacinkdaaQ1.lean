/- Contracts of the drawing of newlines' arguments. -/
import Derived.Test.YtlekbmlacinkdaaD8
import Derived.Test.YtlekbmlacinkdaaN2
namespace Go.Proofs.Ytlekbmlacinkdaa
open Go.ChangeShapes Go.WideShapes Go.ChangeAt Go.RowKit
set_option linter.unusedSimpArgs false
set_option linter.unusedVariables false
set_option maxRecDepth 100000

theorem BytesIn.allocQ {w : World} {A : Option Addr} {n : Nat} (h : BytesIn w w.heap.size A n) (o : Obj) : BytesIn (w.alloc o) (w.alloc o).heap.size A n := fun hn => by
  obtain ⟨b, f, e, hb, hc⟩ := (h.keep (w' := w.alloc o) fun b hb => Below.heap_alloc w o b hb) hn
  exact ⟨b, f, e, by simp; omega, hc⟩
set_option maxHeartbeats 4000000 in
theorem lineBytes_any {g P : Nat} {w : World} (h : Ch w g P) (hP : P ≤ 900000) :
    Calls Try.prog 39 #[.pointer (some ⟨g, 0, none⟩)] w (RowPost g (P + 40) (fun xs => xs.length ≤ 13 ∧ ∀ x ∈ xs, -1 ≤ x ∧ x ≤ 256) w) := by
  have hg := h.lt
  have HCH := Lib.hid (h.alloc (.cells #[] 3))
  clear h
  go_enter Try.func39, Try.ntmps39
  go_wp2_with fail
  refine (one_lit [6, 8, 4, 12, 1, 0] HCH.out (by omega) (by simp) rfl rfl (by decide) (by decide) (by decide)).mono ?_
  rintro e w1 ⟨x, hx, rfl, hch, ht⟩
  have hx2 : 0 ≤ x ∧ x ≤ 12 := by simp at hx; omega
  obtain ⟨N, rfl⟩ := Int.eq_ofNat_of_zero_le hx2.1
  have HC := Lib.hid hch
  have HT := Lib.hid ((Turn.of_below (Below.alloc (Below.refl _ _) (Nat.le_refl _) _) (Nat.le_refl _)).trans (ht.mono (by simp)))
  have HO := Lib.hid ((OwnI.made w (Nat.le_refl _)).turn ht (Nat.le_refl _) hg)
  clear hch ht hx HCH
  go_wp2
  go_loopw [3, 4] (fun o i wr => ∃ A2 k c2 j xs, o = .slice A2 k c2 ∧ i = .int .i64 ((j : Nat) : Int) ∧ k + j ≤ 12 ∧ k = xs.length ∧ (∀ x ∈ xs, -1 ≤ x ∧ x ≤ 256) ∧ Hid (OwnI wr w.heap.size (.slice A2 k c2) k xs) ∧ Hid (Ch wr g (P + 1 + 2 * k)) ∧ Hid (Turn w.heap.size g w wr)) (fun _ i _ => (intOf i).toNat)
  case atStart => exact ⟨_, 0, 0, N, [], rfl, rfl, by omega, rfl, by simp, HO.out, HC.out, HT.out⟩
  case round =>
    obtain ⟨A2, k, c2, j, xs, rfl, rfl, hkj, hkl, hxs, hown, hch, ht⟩ := hrel
    subst hkl
    have HX := Lib.hid hxs
    clear hxs
    have hsz := ht.out.size
    by_cases hlt : (0 : Int) < (j : Int)
    · go_wp2_with fail
      refine (one_lit [97, 10, 13, 98, 13, 10] hch.out (by omega) rfl rfl rfl (by decide) (by decide) (by decide)).mono ?_
      rintro e wa ⟨x, hx, rfl, hcha, hta⟩
      have hx : -1 ≤ x ∧ x ≤ 256 := by simp at hx; omega
      have hown1 := hown.out.turn hta (Nat.le_refl _) hg
      have ht1 := ht.out.trans (hta.mono hsz)
      have HOWN1 := Lib.hid hown1
      have HCH1 := Lib.hid hcha
      have HT1 := Lib.hid ht1
      clear hown1 hcha ht1 hta
      have hsz1 := HT1.out.size
      have hxo : okInt x := by unfold okInt; omega
      go_wp2_with (at_builtin; refine wpList_append_ints rfl (.tmp 13) (.tmp 17) rfl w.heap.size (.slice A2 xs.length c2) xs.length _ rfl (HOWN1.out.alloc _) (some ⟨wa.heap.size, 0, none⟩) 1 1 [x] rfl (lit1 wa x hxo) (by omega) (by simp; omega) ?_)
      intro v' w' hown' hg'
      have hbe' := ((HT1.out.step (Below.alloc (Below.refl _ _) (Nat.le_refl _) _) hsz1)).trans (Turn.of_below (below_grown (HOWN1.out.alloc (.cells #[.int .i64 x] 3)) hg' (by simp; omega)) (Nat.le_refl _))
      have hbc := below_grown (HOWN1.out.alloc (.cells #[.int .i64 x] 3)) hg' (by simp; omega)
      have hch' := (HCH1.out.alloc (.cells #[.int .i64 x] 3)).below hbc hg
      have hxs' : ∀ y ∈ xs ++ [x], -1 ≤ y ∧ y ≤ 256 := fun y hy => by
        rcases List.mem_append.1 hy with h2 | h2
        · exact HX.out y h2
        · simp at h2; subst h2; exact hx
      obtain ⟨A3, c3, rfl, _, _⟩ := hown'.ints (fun y hy => by have := hxs' y hy; unfold okInt; omega)
      have HO' := Lib.hid hown'
      have HB' := Lib.hid hbe'
      have HC' := Lib.hid hch'
      have HX' := Lib.hid hxs'
      clear hown' hbe' hg' hch' hbc hxs'
      go_wp2
      go_roundw
      case rel => exact ⟨A3, xs.length + 1, c3, j - 1, xs ++ [x], rfl, by go_num, by omega, by simp, HX'.out, HO'.out, HC'.out.more (by omega), HB'.out⟩
      case measure => simp [intOf]; omega
    · go_wp2_with fail
      refine (pick_any hch.out (by omega) (by decide)).mono ?_
      rintro e wa ⟨r, rfl, _, hcha, hta⟩
      have HOWN1 := Lib.hid (hown.out.turn hta (Nat.le_refl _) hg)
      have HT1 := Lib.hid (ht.out.trans (hta.mono hsz))
      have HCH1 := Lib.hid hcha
      have hsz1 := HT1.out.size
      clear hcha hta
      by_cases hr : r = 0
      · subst hr
        go_wp2_with fail
        refine (one_lit [-1, 256] HCH1.out (by omega) rfl rfl rfl (by decide) (by decide) (by decide)).mono ?_
        rintro e wb ⟨x, hx, rfl, hch, ht⟩
        have hx : -1 ≤ x ∧ x ≤ 256 := by simp at hx; omega
        have HOWN2 := Lib.hid (HOWN1.out.turn ht (Nat.le_refl _) hg)
        have HT2 := Lib.hid (HT1.out.trans (ht.mono hsz1))
        have HCH2 := Lib.hid hch
        have hsz2 := HT2.out.size
        clear hch ht
        have hxo : okInt x := by unfold okInt; omega
        go_wp2_with (at_builtin; refine wpList_append_ints rfl (.tmp 22) (.tmp 26) rfl w.heap.size (.slice A2 xs.length c2) xs.length _ rfl (HOWN2.out.alloc _) (some ⟨wb.heap.size, 0, none⟩) 1 1 [x] rfl (lit1 wb x hxo) (by omega) (by simp; omega) ?_)
        intro v' w' hown' hg'
        have hbe' := ((HT2.out.step (Below.alloc (Below.refl _ _) (Nat.le_refl _) _) hsz2)).trans (Turn.of_below (below_grown (HOWN2.out.alloc (.cells #[.int .i64 x] 3)) hg' (by simp; omega)) (Nat.le_refl _))
        have hbc := below_grown (HOWN2.out.alloc (.cells #[.int .i64 x] 3)) hg' (by simp; omega)
        have hch' := (HCH2.out.alloc (.cells #[.int .i64 x] 3)).below hbc hg
        have hxs' : ∀ y ∈ xs ++ [x], -1 ≤ y ∧ y ≤ 256 := fun y hy => by
          rcases List.mem_append.1 hy with h2 | h2
          · exact HX.out y h2
          · simp at h2; subst h2; exact hx
        have HO' := Lib.hid hown'
        have HB' := Lib.hid hbe'
        have HC' := Lib.hid hch'
        have HX' := Lib.hid hxs'
        clear hown' hbe' hg' hch' hbc hxs'
        go_wp2
        go_ret
        exact ⟨_, xs ++ [x], rfl, ⟨by simp; omega, HX'.out⟩, by simpa using HO'.out, HC'.out.more (by omega), HB'.out⟩
      · have hrb : (r == 0) = false := by simp [hr]
        go_wp2
        go_ret
        have hl := HX.out
        exact ⟨_, xs, rfl, ⟨by omega, hl⟩, HOWN1.out, HCH1.out.more (by omega), HT1.out⟩
set_option maxHeartbeats 4000000 in
theorem someNl_any {g P : Nat} {w : World} (h : Ch w g P) (hP : P ≤ 900000) :
    Calls Try.prog 38 #[.pointer (some ⟨g, 0, none⟩)] w (fun e w' => ∃ (b : Bool) (s : Int), e = .returned (.agg #[.bool b, .int .i64 s]) ∧ (-1 ≤ s ∧ s ≤ 8) ∧ Ch w' g (P + 2) ∧ Turn w.heap.size g w w') := by
  have hg := h.lt
  have HCH := Lib.hid (h.alloc (.cells #[.bool false, .int .i64 0] 24))
  have R0 := Lib.hid (Box.new w 24 [.bool false, .int .i64 0])
  have T0 : Hid (Turn w.heap.size g w (w.alloc (.cells #[.bool false, .int .i64 0] 24))) := Turn.of_below (Below.alloc (Below.refl _ _) (Nat.le_refl _) _) (Nat.le_refl _)
  have s0 : w.heap.size + 1 ≤ (w.alloc (.cells #[.bool false, .int .i64 0] 24)).heap.size := by simp
  clear h
  go_enter Try.func38, Try.ntmps38
  go_wp2_with fail
  generalize w.alloc (.cells #[.bool false, .int .i64 0] 24) = w0 at *
  refine (pick_any HCH.out (by omega) (by decide)).mono ?_
  rintro e w1 ⟨r, rfl, _, hch, ht⟩
  have HC1 := Lib.hid hch
  have R1 := Lib.hid (R0.out.turn ht (by omega) (by omega))
  have T1 := Lib.hid (T0.out.trans (ht.mono (by omega)))
  have s1 := ht.size
  clear hch ht HCH R0 T0
  go_wp2_with fail
  refine (one_lit [0, 1, 2, 4, 7, 3, 8, -1, 0, 0, 0] HC1.out (by omega) rfl rfl rfl (by decide) (by decide) (by decide)).mono ?_
  rintro e w2 ⟨s, hs, rfl, hch, ht⟩
  have hs2 : -1 ≤ s ∧ s ≤ 8 := by simp at hs; omega
  have HC2 := Lib.hid hch
  have R2 := Lib.hid (R1.out.turn ht (by omega) (by omega))
  have T2 := Lib.hid (T1.out.trans (ht.mono (by omega)))
  clear hs hch ht HC1 R1 T1
  have r0 := (R2.out.2 0 _ rfl).1; have r1 := (R2.out.2 1 _ rfl).1; have f0 := (R2.out.2 0 _ rfl).2; have f1 := (R2.out.2 1 _ rfl).2
  go_wp2
  refine bodyPost_ret (v := .agg #[.bool (r == 0), .int .i64 s]) (by simp [results, Try.results38, go_sem, r0, r1, f0, f1]) rfl ?_
  refine ⟨_, _, rfl, hs2, ?_, ?_⟩
  · refine HC2.out.below (B := w.heap.size) ?_ hg
    (repeat (with_reducible refine below_set ?_ (by omega) _))
    exact Below.refl _ _
  · have hb : Below w.heap.size w2 ((w2.setCell ⟨w.heap.size, 0, none⟩ (.bool (r == 0))).setCell ⟨w.heap.size, 1, none⟩ (.int .i64 s)) := by (repeat (with_reducible refine below_set ?_ (by omega) _)); exact Below.refl _ _
    exact T2.out.trans (Turn.of_below hb (Nat.le_refl _))
/-- A list in new memory, drawn. -/
def DrawnL (w : World) (e : Ending) (w' : World) : Prop := ∃ A n c xs, e = .returned (.slice A n c) ∧ n ≤ c ∧ n ≤ 13 ∧ Below w.heap.size w w' ∧ Ints w' w.heap.size w'.heap.size A n xs
def DrawnLI (w : World) (e : Ending) (w' : World) : Prop := ∃ A n c xs z, e = .returned (.tuple #[.slice A n c, .int .i64 z]) ∧ n ≤ c ∧ n ≤ 13 ∧ Below w.heap.size w w' ∧ Ints w' w.heap.size w'.heap.size A n xs ∧ (-1 ≤ z ∧ z ≤ 100)
def DrawnLB (w : World) (e : Ending) (w' : World) : Prop := ∃ A n c xs b, e = .returned (.tuple #[.slice A n c, .bool b]) ∧ n ≤ c ∧ n ≤ 13 ∧ Below w.heap.size w w' ∧ Ints w' w.heap.size w'.heap.size A n xs
def DrawnNLB (w : World) (e : Ending) (w' : World) : Prop := ∃ b s A n c xs f, e = .returned (.tuple #[.agg #[.bool b, .int .i64 s], .slice A n c, .bool f]) ∧ (-1 ≤ s ∧ s ≤ 8) ∧ n ≤ c ∧ n ≤ 13 ∧ Below w.heap.size w w' ∧ Ints w' w.heap.size w'.heap.size A n xs
set_option maxHeartbeats 1000000 in
theorem DrawCountEnds_any {A : Option Addr} {n c : Nat} {w : World} (h : BytesIn w w.heap.size A n) (hn : n ≤ 1048576) (hnc : n ≤ c) : Calls Try.prog 27 #[.slice A n c] w (DrawnL w) := by
  go_enter Try.func27, Try.ntmps27
  go_wp2_with fail
  refine (newChooser_any h hn hnc).mono ?_
  rintro e w1 ⟨rfl, hch, hb⟩
  have s1 := hch.lt
  go_wp2_with fail
  refine (lineBytes_any hch (by omega)).mono ?_
  rintro e w2 ⟨v, xs, rfl, ⟨hl, hx⟩, hown, _, ht⟩
  obtain ⟨A2, c2, rfl, hc2, hI⟩ := hown.ints (fun x hxm => by have := hx x hxm; unfold okInt; omega)
  have hb2 := hb.trans (ht.below (B := w.heap.size) (by omega) (by omega))
  have HI := Lib.hid hI
  have HB := Lib.hid hb2
  clear hown ht hI hx hb hb2 hch
  go_wp2
  go_ret
  exact ⟨_, _, _, xs, rfl, hc2, hl, HB.out, HI.out.more (by omega) (Nat.le_refl _)⟩
set_option maxHeartbeats 1000000 in
theorem DrawEndsIn_any {A : Option Addr} {n c : Nat} {w : World} (h : BytesIn w w.heap.size A n) (hn : n ≤ 1048576) (hnc : n ≤ c) : Calls Try.prog 34 #[.slice A n c] w (DrawnL w) := by
  go_enter Try.func34, Try.ntmps34
  go_wp2_with fail
  refine (newChooser_any h hn hnc).mono ?_
  rintro e w1 ⟨rfl, hch, hb⟩
  have s1 := hch.lt
  go_wp2_with fail
  refine (lineBytes_any hch (by omega)).mono ?_
  rintro e w2 ⟨v, xs, rfl, ⟨hl, hx⟩, hown, _, ht⟩
  obtain ⟨A2, c2, rfl, hc2, hI⟩ := hown.ints (fun x hxm => by have := hx x hxm; unfold okInt; omega)
  have hb2 := hb.trans (ht.below (B := w.heap.size) (by omega) (by omega))
  have HI := Lib.hid hI
  have HB := Lib.hid hb2
  clear hown ht hI hx hb hb2 hch
  go_wp2
  go_ret
  exact ⟨_, _, _, xs, rfl, hc2, hl, HB.out, HI.out.more (by omega) (Nat.le_refl _)⟩
set_option maxHeartbeats 1000000 in
theorem DrawNlNumber_any {A : Option Addr} {n c : Nat} {w : World} (h : BytesIn w w.heap.size A n) (hn : n ≤ 1048576) (hnc : n ≤ c) : Calls Try.prog 29 #[.slice A n c] w (fun e w' => ∃ b s, e = .returned (.agg #[.bool b, .int .i64 s]) ∧ (-1 ≤ s ∧ s ≤ 8) ∧ Below w.heap.size w w') := by
  have R0 := Lib.hid (Box.new w 24 [.bool false, .int .i64 0])
  go_enter Try.func29, Try.ntmps29
  go_wp2_with fail
  refine (newChooser_any (h.allocQ _) hn hnc).mono ?_
  rintro e w1 ⟨rfl, hch, hb⟩
  (try simp only [World.size_alloc, World.size_setCell, World.size_drew] at hch hb)
  have R1 := Lib.hid (R0.out.below hb (by omega))
  have s1 := hch.lt
  have E1 : Hid (Below w.heap.size w w1) := below_step hb (by go_grown) (by omega)
  clear hb
  go_wp2_with fail
  refine (someNl_any hch (by omega)).mono ?_
  rintro e w2 ⟨b, s, rfl, hs, _, ht⟩
  have R2 := Lib.hid (R1.out.turn ht (by omega) (by omega))
  have E2 : Hid (Below w.heap.size w w2) := E1.out.trans (ht.below (by omega) (by omega))
  clear ht R0 R1 E1 hch
  have r0 := (R2.out.2 0 _ rfl).1; have r1 := (R2.out.2 1 _ rfl).1; have f0 := (R2.out.2 0 _ rfl).2; have f1 := (R2.out.2 1 _ rfl).2
  go_wp2
  refine bodyPost_ret (v := .agg #[.bool b, .int .i64 s]) (by simp [results, Try.results29, go_sem, r0, r1, f0, f1]) rfl ?_
  refine ⟨_, _, rfl, hs, ?_⟩
  (repeat (with_reducible refine below_set ?_ (by omega) _))
  exact E2.out
set_option maxHeartbeats 1000000 in
theorem DrawNlState_any {A : Option Addr} {n c : Nat} {w : World} (h : BytesIn w w.heap.size A n) (hn : n ≤ 1048576) (hnc : n ≤ c) : Calls Try.prog 32 #[.slice A n c] w (fun e w' => ∃ z : Int, e = .returned (.int .i64 z) ∧ (-1 ≤ z ∧ z ≤ 16) ∧ Below w.heap.size w w') := by
  go_enter Try.func32, Try.ntmps32
  go_wp2_with fail
  refine (newChooser_any h hn hnc).mono ?_
  rintro e w1 ⟨rfl, hch, hb⟩
  have s1 := hch.lt
  have E1 := Lib.hid hb
  clear hb
  go_wp2_with fail
  refine (pick_any hch (by omega) (by decide)).mono ?_
  rintro e w2 ⟨r, rfl, ⟨hr0, hr1, _⟩, hch2, ht⟩
  have hr2 := hr1 (by decide)
  clear hr1
  have HC2 := Lib.hid hch2
  have E2 : Hid (Below w.heap.size w w2) := E1.out.trans (ht.below (by omega) (by omega))
  have s2 := ht.size
  have z2 := E1.out.size
  clear hch2 ht hch E1
  go_wp2_with fail
  refine (one_lit [r, 0, 15, 16, -1] HC2.out (by omega) rfl rfl rfl (by simp) (by simp) (fun x hx => by simp at hx; omega)).mono ?_
  rintro e w3 ⟨x, hx, rfl, _, ht⟩
  have hx2 : -1 ≤ x ∧ x ≤ 16 := by simp at hx; omega
  have E3 : Hid (Below w.heap.size w w3) := E2.out.trans (ht.below (by omega) (by omega))
  clear ht hx
  go_wp2
  go_ret
  exact ⟨_, rfl, hx2, E3.out⟩
set_option maxHeartbeats 1000000 in
theorem DrawNewlineOut_any {A : Option Addr} {n c : Nat} {w : World} (h : BytesIn w w.heap.size A n) (hn : n ≤ 1048576) (hnc : n ≤ c) : Calls Try.prog 18 #[.slice A n c] w (DrawnLI w) := by
  go_enter Try.func18, Try.ntmps18
  go_wp2_with fail
  refine (newChooser_any h hn hnc).mono ?_
  rintro e w1 ⟨rfl, hch, hb⟩
  have s1 := hch.lt
  have z1 := hb.size
  go_wp2_with fail
  refine (lineBytes_any hch (by omega)).mono ?_
  rintro e w2 ⟨v, xs, rfl, ⟨hl, hx⟩, hown, hch2, ht⟩
  have hb2 := hb.trans (ht.below (B := w.heap.size) (by omega) (by omega))
  have s2 := ht.size
  have HO := Lib.hid hown
  have HC2 := Lib.hid hch2
  have HB := Lib.hid hb2
  have HX := Lib.hid hx
  clear hown ht hx hb hb2 hch hch2
  go_wp2_with fail
  refine (one_lit [1, 2, 4, 3, 0, 4] HC2.out (by omega) rfl rfl rfl (by decide) (by decide) (by decide)).mono ?_
  rintro e w3 ⟨z, hz, rfl, _, ht⟩
  have hz2 : -1 ≤ z ∧ z ≤ 100 := by simp at hz; omega
  have hown3 := HO.out.turn ht (Nat.le_refl _) s1
  obtain ⟨A2, c2, rfl, hc2, hI⟩ := hown3.ints (fun x hxm => by have := HX.out x hxm; unfold okInt; omega)
  have E3 : Hid (Below w.heap.size w w3) := HB.out.trans (ht.below (by omega) (by omega))
  have HI := Lib.hid hI
  clear ht hz hown3 hI HO
  go_wp2
  go_ret2
  exact ⟨_, _, _, xs, z, rfl, hc2, hl, E3.out, HI.out.more (by omega) (Nat.le_refl _), hz2⟩
set_option maxHeartbeats 2000000 in
theorem DrawNewlineIn_any {A : Option Addr} {n c : Nat} {w : World} (h : BytesIn w w.heap.size A n) (hn : n ≤ 1048576) (hnc : n ≤ c) : Calls Try.prog 11 #[.slice A n c] w (DrawnNLB w) := by
  have R0 := Lib.hid (Box.new w 24 [.bool false, .int .i64 0])
  go_enter Try.func11, Try.ntmps11
  go_wp2_with fail
  refine (newChooser_any (h.allocQ _) hn hnc).mono ?_
  rintro e w1 ⟨rfl, hch, hb⟩
  (try simp only [World.size_alloc, World.size_setCell, World.size_drew] at hch hb)
  have R1 := Lib.hid (R0.out.below hb (by omega))
  have s1 := hch.lt
  have E1 : Hid (Below w.heap.size w w1) := below_step hb (by go_grown) (by omega)
  have z1 := E1.out.size
  clear hb
  go_wp2_with fail
  refine (someNl_any hch (by omega)).mono ?_
  rintro e w2 ⟨b, s, rfl, hs, hch2, ht⟩
  have R2 := Lib.hid (R1.out.turn ht (by omega) (by omega))
  have E2 : Hid (Below w.heap.size w w2) := E1.out.trans (ht.below (by omega) (by omega))
  have HC2 := Lib.hid hch2
  have s2 := ht.size
  clear ht R0 R1 E1 hch hch2
  go_wp2_with fail
  refine (lineBytes_any HC2.out (by omega)).mono ?_
  rintro e w3 ⟨v, xs, rfl, ⟨hl, hx⟩, hown, hch3, ht⟩
  have R3 := Lib.hid (R2.out.turn ht (by omega) (by omega))
  have E3 : Hid (Below w.heap.size w w3) := E2.out.trans (ht.below (by omega) (by omega))
  have HC3 := Lib.hid hch3
  have HO3 := Lib.hid hown
  have HX := Lib.hid hx
  have s3 := ht.size
  clear ht R2 E2 hch3 hown hx
  go_wp2_with fail
  refine (pick_any HC3.out (by omega) (by decide)).mono ?_
  rintro e w4 ⟨r, rfl, _, _, ht⟩
  have R4 := Lib.hid (R3.out.turn ht (by omega) (by omega))
  have E4 : Hid (Below w.heap.size w w4) := E3.out.trans (ht.below (by omega) (by omega))
  have hown4 := HO3.out.turn ht (Nat.le_refl _) (by omega)
  obtain ⟨A2, c2, rfl, hc2, hI⟩ := hown4.ints (fun x hxm => by have := HX.out x hxm; unfold okInt; omega)
  have HI := Lib.hid hI
  clear ht R3 E3 hown4 hI HO3
  have r0 := (R4.out.2 0 _ rfl).1; have r1 := (R4.out.2 1 _ rfl).1; have f0 := (R4.out.2 0 _ rfl).2; have f1 := (R4.out.2 1 _ rfl).2
  go_wp2
  refine bodyPost_ret (v := .tuple #[.agg #[.bool b, .int .i64 s], .slice A2 xs.length c2, .bool (r == 0)]) (by simp [results, Try.results11, go_sem, r0, r1, f0, f1]) rfl ?_
  refine ⟨_, _, _, _, _, xs, _, rfl, hs, hc2, hl, ?_, ?_⟩
  · (repeat (with_reducible refine below_set ?_ (by omega) _))
    exact E4.out
  · simp only [World.size_setCell]
    refine Ints.more (lo := w2.heap.size) (hi := w4.heap.size) ?_ (by omega) (Nat.le_refl _)
    (repeat (with_reducible refine Ints.set_ ?_ (by omega) _))
    exact HI.out
end Go.Proofs.Ytlekbmlacinkdaa
