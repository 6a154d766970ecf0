/- Contracts of the drawing of a law's arguments: bytes and a script; a device and bytes; a device and where to seek to. -/
import Derived.Test.YtbphijnhcpcclaaK1
namespace Go.Proofs.Ytbphijnhcpcclaa
open Go.ChangeShapes Go.WideShapes Go.ChangeAt Go.RowKit
set_option linter.unusedSimpArgs false
set_option linter.unusedVariables false

def DrawnDS (w : World) (e : Ending) (w' : World) : Prop := ∃ A n c A' n' c' D S p q zo zw, e = .returned (.tuple #[.agg #[.slice (A) n c, .int .i64 (p), .slice (A') n' c', .int .i64 (q)], .int .i64 zo, .int .i64 zw]) ∧ DrawD w w' A n c A' n' c' D S p q ∧ (-61 ≤ zo ∧ zo ≤ 61) ∧ (-1 ≤ zw ∧ zw ≤ 3)
def DrawnDL (w : World) (e : Ending) (w' : World) : Prop := ∃ A n c A' n' c' D S p q A1 n1 c1 L, e = .returned (.tuple #[.agg #[.slice (A) n c, .int .i64 (p), .slice (A') n' c', .int .i64 (q)], .slice A1 n1 c1]) ∧ DrawD w w' A n c A' n' c' D S p q ∧ n1 ≤ c1 ∧ Ints w' w.heap.size w'.heap.size A1 n1 L ∧ n1 ≤ 61
def DrawnLL (w : World) (e : Ending) (w' : World) : Prop := ∃ A n c A' n' c' D S, e = .returned (.tuple #[.slice A n c, .slice A' n' c']) ∧ (n ≤ c ∧ n' ≤ c') ∧ Below w.heap.size w w' ∧ Ints w' w.heap.size w'.heap.size A n D ∧ Ints w' w.heap.size w'.heap.size A' n' S ∧ (n ≤ 61 ∧ n' ≤ 7)

set_option maxHeartbeats 1000000 in
theorem DrawSeekDevice_any {A : Option Addr} {n c : Nat} {w : World} (h : BytesIn w w.heap.size A n) (hn : n ≤ 1048576) (hnc : n ≤ c) : Calls Try.prog 19 #[.slice A n c] w (DrawnDS w) := by
  have R0 := Lib.hid (Box.new w 27 [.slice none 0 0, .int .i64 0, .slice none 0 0, .int .i64 0])
  go_enter Try.func19, Try.ntmps19
  go_wp2_with fail
  refine (newChooser_any (h.alloc _) hn hnc).mono ?_
  rintro e w1 ⟨rfl, hch, hb⟩
  (try simp only [World.size_alloc, World.size_setCell, World.size_drew] at hch hb)
  have HC := Lib.hid hch
  have hg := hch.lt
  have HB : Hid (Below w.heap.size w w1) := below_step hb (by go_grown) (by omega)
  have R1 := Lib.hid (R0.out.below hb (by omega))
  clear hch hb R0
  go_wp2_with fail
  refine (someDevice_any HC.out (by omega)).mono ?_
  rintro e w2 ⟨A, n, c, A', n', c', D, S, p, q, rfl, hn, hn', hn1, hn2, hD, hS, hp, hq, hown, hown', _, hch, ht⟩
  subst hn hn'
  have HC2 := Lib.hid hch
  have HX : Hid (∀ w3, Turn w2.heap.size (w.heap.size + 1) w2 w3 → DrawX w1.heap.size w w3 A D.length c A' S.length c' D S p q) := fun w3 ht2 => DrawX.of HB.out (by omega) hg (Nat.le_refl _) hown hown' ht ht2 hD hS ⟨hn1, hn2⟩ hp hq
  have R2 := Lib.hid (R1.out.turn ht (by omega) (by omega))
  clear R1
  have s2 := ht.size
  clear hD hS hown hown' ht hch
  go_wp2_with fail
  refine (aSeek_any (HC2.out.alloc (.cells #[.slice (A) D.length c, .int .i64 (p), .slice (A') S.length c', .int .i64 (q)] 27)) (by omega)).mono ?_
  rintro e w3 ⟨zo, zw, rfl, h1, h2, _, ht⟩
  rw [World.size_alloc] at ht
  have X3 := Lib.hid ((Box.new w2 27 [.slice (A) D.length c, .int .i64 (p), .slice (A') S.length c', .int .i64 (q)]).turn ht (by omega) (by omega))
  have R3 := Lib.hid ((R2.out.alloc (.cells #[.slice (A) D.length c, .int .i64 (p), .slice (A') S.length c', .int .i64 (q)] 27)).turn ht (by omega) (by omega))
  have HX3 := Lib.hid (HX.out _ ((Turn.of_below (B := w2.heap.size) (Below.alloc (Below.refl _ w2) (Nat.le_refl _) (.cells #[.slice (A) D.length c, .int .i64 (p), .slice (A') S.length c', .int .i64 (q)] 27)) (Nat.le_refl _)).trans (ht.mono (by omega))))
  clear ht R2 HX
  have x0 := (X3.out.2 0 _ rfl).1; have x1 := (X3.out.2 1 _ rfl).1; have x2 := (X3.out.2 2 _ rfl).1; have x3 := (X3.out.2 3 _ rfl).1
  have r0 := (R3.out.2 0 _ rfl).1; have r1 := (R3.out.2 1 _ rfl).1; have r2 := (R3.out.2 2 _ rfl).1; have r3 := (R3.out.2 3 _ rfl).1
  have g0 := (R3.out.2 0 _ rfl).2; have g1 := (R3.out.2 1 _ rfl).2; have g2 := (R3.out.2 2 _ rfl).2; have g3 := (R3.out.2 3 _ rfl).2
  go_wp2
  refine bodyPost_ret (v := .tuple #[.agg #[.slice (A) D.length c, .int .i64 (p), .slice (A') S.length c', .int .i64 (q)], .int .i64 zo, .int .i64 zw]) (by simp [results, Try.results19, go_sem, r0, r1, r2, r3, g0, g1, g2, g3]) rfl ?_
  exact ⟨_, _, _, _, _, _, D, S, p, q, zo, zw, rfl, ((((HX3.out.set_ (by omega) (by omega) _).set_ (by omega) (by omega) _).set_ (by omega) (by omega) _).set_ (by omega) (by omega) _).down (by omega), h1, h2⟩

set_option maxHeartbeats 1000000 in
theorem DrawNewDevice_any {A : Option Addr} {n c : Nat} {w : World} (h : BytesIn w w.heap.size A n) (hn : n ≤ 1048576) (hnc : n ≤ c) : Calls Try.prog 9 #[.slice A n c] w (DrawnLL w) := by
  go_enter Try.func9, Try.ntmps9
  go_wp2_with fail
  refine (newChooser_any h hn hnc).mono ?_
  rintro e w1 ⟨rfl, hch, hb⟩
  have HC := Lib.hid hch
  have HB := Lib.hid hb
  have hg := hch.lt
  clear hch hb
  go_wp2_with fail
  refine (someScript_any HC.out (by omega)).mono ?_
  rintro e w2 ⟨v, xs, rfl, ⟨hl, hxs⟩, hown, hch, ht⟩
  obtain ⟨A1, c1, rfl, hc1, _⟩ := hown.ints (fun x hx => by have := hxs x hx; unfold okInt; omega)
  have HX := Lib.hid hxs
  have HC2 := Lib.hid hch
  have HO2 := Lib.hid hown
  have HT2 := Lib.hid ht
  have s2 := ht.size
  clear hxs hch hown ht
  go_wp2_with fail
  refine (pick_any HC2.out (by omega) (by decide)).mono ?_
  rintro e w3 ⟨t, rfl, _, hch, ht⟩
  have HC3 := Lib.hid hch
  have HO3 := Lib.hid (HO2.out.turn ht (Nat.le_refl _) hg)
  have HT3 := Lib.hid (HT2.out.trans (ht.mono s2))
  have s3 := HT3.out.size
  clear hch ht HC2 HO2 HT2
  have last : ∀ (w4 : World) (ys : List Int) (A2 : Option Addr) (c2 : Nat), Hid (Ch w4 w.heap.size 300) → Hid (OwnI w4 w1.heap.size (.slice A2 ys.length c2) ys.length ys) → Hid (Turn w1.heap.size w.heap.size w1 w4) → ys.length ≤ 7 → ys.length ≤ c2 → (∀ x ∈ ys, -2 ≤ x ∧ x ≤ 61) →
      Calls Try.prog 41 #[.pointer (some ⟨w.heap.size, 0, none⟩)] w4 (fun e w5 => ∃ (A : Option Addr) (n c : Nat), e = .returned (.slice A n c) ∧ DrawnLL w (.returned (.tuple #[.slice A n c, .slice A2 ys.length c2])) w5) := by
    intro w4 ys A2 c2 HC4 HO4 HT4 hy7 hyc hys
    have s4 := HT4.out.size
    refine (anyBytes_any HC4.out (by omega)).mono ?_
    rintro e w5 ⟨v, zs, rfl, ⟨hl5, hzs⟩, hown5, _, ht5⟩
    obtain ⟨A5, c5, rfl, hc5, hI5⟩ := hown5.ints (fun x hx => by have := hzs x hx; unfold okInt; omega)
    obtain ⟨_, hI6⟩ := own_ints (HO4.out.turn ht5 (Nat.le_refl _) hg) hys (by decide) (by decide)
    have s5 := ht5.size
    exact ⟨_, _, _, rfl, _, _, _, _, _, _, zs, ys, rfl, ⟨hc5, hyc⟩, (HB.out.trans (HT4.out.below (by omega) (by omega))).trans (ht5.below (by omega) (by omega)), hI5.more (by omega) (Nat.le_refl _), hI6.more (by omega) (Nat.le_refl _), hl5, hy7⟩
  have LAST := Lib.hid last
  clear last
  by_cases h0 : t = 0
  · subst h0
    go_wp2_with fail
    refine (one_lit [-2, 61] HC3.out (by omega) rfl rfl rfl (by decide) (by decide) (by decide)).mono ?_
    rintro e w4 ⟨x, hx, rfl, hch, ht⟩
    have hx1 : -2 ≤ x ∧ x ≤ 61 := by simp at hx; omega
    have HC4 := Lib.hid hch
    have HO4 := Lib.hid (HO3.out.turn ht (Nat.le_refl _) hg)
    have HT4 := Lib.hid (HT3.out.trans (ht.mono s3))
    have s4 := HT4.out.size
    clear hch ht HC3 HO3 HT3 hx
    go_wp2_with (at_builtin; refine wpList_append_ints rfl _ _ rfl w1.heap.size (.slice A1 xs.length c1) xs.length _ rfl (HO4.out.alloc _) (some ⟨w4.heap.size, 0, none⟩) 1 1 [x] rfl (one_int w4 x (by omega) (by omega)) (by omega) (by simp; omega) ?_)
    intro v' w' hown' hg'
    have hbc := below_grown (HO4.out.alloc (.cells #[.int .i64 x] 3)) hg' (by simp; omega)
    have HT5 := Lib.hid ((HT4.out.step (Below.alloc (Below.refl _ _) (Nat.le_refl _) (.cells #[.int .i64 x] 3)) s4).trans (Turn.of_below hbc (Nat.le_refl _)))
    have HC5 := Lib.hid (((HC4.out.alloc (.cells #[.int .i64 x] 3)).below hbc (by omega)).more (P' := 300) (by omega))
    have hys : ∀ y ∈ xs ++ [x], -2 ≤ y ∧ y ≤ 61 := fun y hy => by
      rcases List.mem_append.1 hy with h2 | h2
      · have := HX.out y h2; omega
      · simp at h2; subst h2; exact hx1
    obtain ⟨A5, c5, rfl, hc5, _⟩ := hown'.ints (fun x hx => by have := hys x hx; unfold okInt; omega)
    have HY := Lib.hid hys
    have HO5 : Hid (OwnI w' w1.heap.size (.slice A5 (xs ++ [x]).length c5) (xs ++ [x]).length (xs ++ [x])) := by
      show OwnI _ _ _ _ _
      have e : (xs ++ [x]).length = xs.length + 1 := by simp
      rw [e]
      exact hown'
    clear hown' hg' hbc hys
    go_wp2_with fail
    refine (LAST.out w' (xs ++ [x]) A5 c5 HC5 HO5 HT5 (by simp; omega) (by simp; omega) HY.out).mono ?_
    rintro e w5 ⟨A6, n6, c6, rfl, hh⟩
    have HH := Lib.hid hh
    clear hh
    go_wp2
    go_ret2
    simpa using HH.out
  · have e0 : (t == 0) = false := by simp [h0]
    go_wp2_with fail
    refine (LAST.out w3 xs A1 c1 (HC3.out.more (by omega)) HO3 HT3 (by omega) hc1 (fun y hy => by have := HX.out y hy; omega)).mono ?_
    rintro e w5 ⟨A6, n6, c6, rfl, hh⟩
    have HH := Lib.hid hh
    clear hh
    go_wp2
    go_ret2
    exact HH.out
end Go.Proofs.Ytbphijnhcpcclaa
