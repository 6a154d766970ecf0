/- Contracts of the drawing functions: any bytes. -/
import Derived.Test.YtdiebkaedjlckaaDoorD6
import Derived.Laws.OwnMore
namespace Go.Proofs.YtdiebkaedjlckaaDoor
section
open Go.ChangeShapes Go.WideShapes Go.ChangeAt Go.RowKit
set_option linter.unusedSimpArgs false
set_option linter.unusedVariables false

theorem OwnI.new (w : World) {base n : Nat} {cur : Array Value} {xs : List Int} (hb : base ≤ w.heap.size) (hn : n = xs.length) (hc : cur.toList = xs.map (Value.int .i64)) (hm : n ≤ 1000000) :
    OwnI (w.alloc (.cells cur 3)) base (.slice (some ⟨w.heap.size, 0, none⟩) n n) n xs := by
  have hs : cur.size = n := by rw [← Array.length_toList, hc]; simp [hn]
  exact ⟨by simp [hn], .inr ⟨w.heap.size, n, cur, rfl, hb, Go.Deep.blk_alloc_new _ _, Nat.le_refl _, by unfold maxLen; omega, by omega, by rw [hc, List.take_of_length_le (by simp [hn])]⟩⟩

set_option maxHeartbeats 2000000 in
theorem anyBytes_any {g P : Nat} {w : World} (h : Ch w g P) (hP : P ≤ 800000) :
    Calls Tryd.prog 80 #[.pointer (some ⟨g, 0, none⟩)] w (RowPost g (P + 200) (fun xs => xs.length ≤ 61 ∧ ∀ x ∈ xs, -1 ≤ x ∧ x ≤ 256) w) := by
  have hg := h.lt
  have HCH := Lib.hid h
  clear h
  go_enter Tryd.func80, Tryd.ntmps80
  go_wp2_with fail
  refine (someBytes_any HCH.out (by omega)).mono ?_
  rintro e w1 ⟨v, xs, rfl, ⟨hD1, hD2⟩, hown, hch, ht⟩
  obtain ⟨A, c, rfl, hnc, _⟩ := hown.ints (fun x hx => by have := hD2 x hx; unfold okInt; omega)
  have HX := Lib.hid hD2
  have HC1 := Lib.hid hch
  have hsz1 := ht.size
  have HT1 := Lib.hid ht
  have HO1 := Lib.hid hown
  clear hown hch ht HCH hD2
  go_wp2_with fail
  refine (pick_any HC1.out (by omega) (by decide)).mono ?_
  rintro e w2 ⟨t, rfl, _, hch, ht⟩
  have HC2 := Lib.hid hch
  have HOWN2 := Lib.hid (HO1.out.turn ht (Nat.le_refl _) hg)
  have HT2 := Lib.hid (HT1.out.trans (ht.mono hsz1))
  have hsz2 := HT2.out.size
  clear hch ht HC1 HT1 HO1
  by_cases h0 : t = 0
  · subst h0
    go_wp2_with fail
    refine (one_lit [-1, 256] HC2.out (by omega) rfl rfl rfl (by decide) (by decide) (by decide)).mono ?_
    rintro e w3 ⟨x, hx, rfl, hch, ht⟩
    have hx1 : -1 ≤ x ∧ x ≤ 256 := by simp at hx; omega
    have HC3 := Lib.hid hch
    have HOWN3 := Lib.hid (HOWN2.out.turn ht (Nat.le_refl _) hg)
    have HT3 := Lib.hid (HT2.out.trans (ht.mono hsz2))
    have hsz3 := HT3.out.size
    clear hch ht HC2 HT2 HOWN2 hx
    go_wp2_with (at_builtin; refine wpList_append_ints rfl (.tmp 10) (.tmp 14) rfl w.heap.size (.slice A xs.length c) xs.length _ rfl (HOWN3.out.alloc _) (some ⟨w3.heap.size, 0, none⟩) 1 1 [x] rfl (one_int w3 x (by omega) (by omega)) (by omega) (by simp; omega) ?_)
    intro v' w' hown' hg'
    have hbe' := ((HT3.out.step (Below.alloc (Below.refl _ _) (Nat.le_refl _) _) hsz3)).trans (Turn.of_below (below_grown (HOWN3.out.alloc (.cells #[.int .i64 x] 3)) hg' (by simp; omega)) (Nat.le_refl _))
    have hbc := below_grown (HOWN3.out.alloc (.cells #[.int .i64 x] 3)) hg' (by simp; omega)
    have hch' := (HC3.out.alloc (.cells #[.int .i64 x] 3)).below hbc hg
    have hxs' : ∀ y ∈ xs ++ [x], -1 ≤ y ∧ y ≤ 256 := fun y hy => by
      rcases List.mem_append.1 hy with h2 | h2
      · have := HX.out y h2; omega
      · simp at h2; subst h2; exact hx1
    have HO' := Lib.hid hown'
    have HB' := Lib.hid hbe'
    have HC' := Lib.hid hch'
    have HX' := Lib.hid hxs'
    clear hown' hbe' hg' hch' hbc hxs'
    go_wp2
    go_ret
    exact ⟨_, xs ++ [x], rfl, ⟨by simp; omega, HX'.out⟩, by simpa using HO'.out, HC'.out.more (by omega), HB'.out⟩
  · by_cases h1 : t = 1
    · subst h1
      have hmk : Sem.run Tryd.prog (Instr.makeSlice 22 (.int .i64 61) (.int .i64 61)) w2 = .ok (.slice (some ⟨w2.heap.size, 0, none⟩) 61 61) (w2.alloc (.cells (madeCells #[.int .i64 0] 61) 3)) := run_make_row' (P := Tryd.prog) 22 3 (.int .i64 0) 8 Tryd.underlying22 infoInt rfl .i64 .i64 61 (by omega) (by omega) w2
      go_wp2
      go_ret
      have hO : OwnI (w2.alloc (.cells (madeCells #[.int .i64 0] 61) 3)) w.heap.size (.slice (some ⟨w2.heap.size, 0, none⟩) 61 61) 61 (List.replicate 61 0) := OwnI.new w2 hsz2 (by simp) (by rw [toList_madeCells_one, List.map_replicate]) (by decide)
      exact ⟨_, List.replicate 61 0, rfl, ⟨by simp, fun x hx => by rw [List.eq_of_mem_replicate hx]; omega⟩, by simpa using hO, (HC2.out.alloc _).more (by omega), HT2.out.step (Below.alloc (Below.refl _ _) (Nat.le_refl _) _) hsz2⟩
    · have e0 : (t == 0) = false := by simp [h0]
      have e1 : (t == 1) = false := by simp [h1]
      go_wp2
      go_ret
      exact ⟨_, xs, rfl, ⟨by omega, fun x hx => by have := HX.out x hx; omega⟩, HOWN2.out, HC2.out.more (by omega), HT2.out⟩
end
section
open Go.ChangeShapes Go.WideShapes Go.ChangeAt Go.RowKit
set_option linter.unusedSimpArgs false
set_option linter.unusedVariables false

theorem BytesIn.take {w : World} {hi n m : Nat} {A : Option Addr} (h : BytesIn w hi A n) (hm : m ≤ n) : BytesIn w hi A m := fun hm0 => by
  obtain ⟨b, o, e, hb, hc⟩ := h (by omega)
  exact ⟨b, o, e, hb, fun k hk => hc k (by omega)⟩

set_option maxHeartbeats 1000000 in
theorem newChooser_any {A : Option Addr} {n c : Nat} {w : World} (h : BytesIn w w.heap.size A n) (hn : n ≤ 1048576) (hnc : n ≤ c) :
    Calls Tryd.prog 78 #[.slice A n c] w (fun e w' => e = .returned (.pointer (some ⟨w.heap.size, 0, none⟩)) ∧ Ch w' w.heap.size 0 ∧ Below w.heap.size w w') := by
  have HB := Lib.hid h
  clear h
  by_cases h2 : 2000 < n
  · have h2' : (2000 : Int) < (n : Int) := by omega
    obtain ⟨b, o, rfl, _, _⟩ := HB.out (by omega)
    go_enter Tryd.func78, Tryd.ntmps78
    go_wp2
    go_ret
    have hk : ∀ j, j < w.heap.size → (w.alloc (.cells #[.slice (some ⟨b, o, none⟩) 2000 c, .int .i64 0] 125)).heap[j]? = w.heap[j]? := fun j hj => Below.heap_alloc w _ j hj
    exact ⟨rfl, ⟨_, _, _, 0, Box.new w _ [.slice (some ⟨b, o, none⟩) 2000 c, .int .i64 0], (HB.out.take (by omega)).keep hk, by omega, Nat.le_refl _⟩, Below.alloc (Below.refl _ _) (Nat.le_refl _) _⟩
  · have h2' : ¬ (2000 : Int) < (n : Int) := by omega
    go_enter Tryd.func78, Tryd.ntmps78
    go_wp2
    go_ret
    have hk : ∀ j, j < w.heap.size → (w.alloc (.cells #[.slice A n c, .int .i64 0] 125)).heap[j]? = w.heap[j]? := fun j hj => Below.heap_alloc w _ j hj
    exact ⟨rfl, ⟨_, _, _, 0, Box.new w _ [.slice A n c, .int .i64 0], HB.out.keep hk, by omega, Nat.le_refl _⟩, Below.alloc (Below.refl _ _) (Nat.le_refl _) _⟩

end
end Go.Proofs.YtdiebkaedjlckaaDoor
