/- Contracts of the model's overlaid. -/
import Derived.Test.YtdiebkaedjlckaaDoorC1k
import Derived.Test.YtdiebkaedjlckaaDoorS1d
namespace Go.Proofs.YtdiebkaedjlckaaDoor
open Go.ChangeShapes Go.WideShapes Go.ChangeAt Go.RowKit
set_option linter.unusedSimpArgs false
set_option linter.unusedVariables false

theorem OwnI.put_in {w : World} {base n g cap j : Nat} {xs : List Int} (h : OwnI w base (.slice (some ⟨g, 0, none⟩) n cap) n xs) (hj : j < n) (x : Int) : OwnI (w.setCell ⟨g, j, none⟩ (.int .i64 x)) base (.slice (some ⟨g, 0, none⟩) n cap) n (xs.set j x) := by
  have hl := h.len
  rcases h.2 with ⟨e, _⟩ | ⟨g', cap', cur, e, hg, hh, hnc, hm, hs, ht⟩
  · cases e
  · injection e with e1 e2 e3
    injection e1 with e1
    injection e1 with e1
    subst e1; subst e3
    refine ⟨by simp [hl], Or.inr ⟨g, cap, cur.setIfInBounds j (.int .i64 x), rfl, hg, Go.Joins.block_setCell hh _, hnc, hm, by simpa using hs, ?_⟩⟩
    rw [Array.toList_setIfInBounds, List.take_set, ht, List.map_set]
theorem OwnI.some_ {w : World} {base n : Nat} {v : Value} {xs : List Int} (h : OwnI w base v n xs) (hn : 0 < n) : ∃ g c, v = .slice (some ⟨g, 0, none⟩) n c ∧ base ≤ g ∧ g < w.heap.size ∧ n ≤ c ∧ (∀ j, j < n → ∃ x, w.cell? ⟨g, j, none⟩ = some (.int .i64 x) ∧ w.frozen? ⟨g, j, none⟩ = false) := by
  have hl := h.len
  rcases h.2 with ⟨_, h0⟩ | ⟨g, cap, cur, rfl, hg, hh, hnc, hm, hs, ht⟩
  · omega
  · refine ⟨g, cap, rfl, hg, (Array.getElem?_eq_some_iff.1 hh).1, hnc, fun j hj => ?_⟩
    have hx : j < xs.length := by omega
    refine ⟨xs[j], ?_, by simp [World.frozen?, hh]⟩
    have e : (cur.toList.take (n * 1))[j]? = some (.int .i64 xs[j]) := by rw [ht]; simp [hx]
    rw [List.getElem?_take] at e
    split at e
    · simpa [World.cell?, hh] using e
    · cases e
theorem one_zero_ints (w : World) (x : Int) (hx : okInt x) : Ints (w.alloc (.cells #[.int .i64 x] 3)) w.heap.size (w.heap.size + 1) (some ⟨w.heap.size, 0, none⟩) 1 [x] := by
  refine ⟨rfl, by omega, by intro y hy; simp at hy; subst hy; exact hx, fun _ => ⟨w.heap.size, 0, rfl, Nat.le_refl _, by omega, fun j y hy => ?_⟩⟩
  cases j with
  | zero =>
    simp at hy
    subst hy
    exact ⟨by rw [World.cell?_alloc_new]; rfl, by unfold World.frozen?; rw [Go.Deep.blk_alloc_new]; simp⟩
  | succ j => simp at hy
/-- Bytes overlaid, so far. -/
def ovl (P : List Int) (a j : Nat) (L : List Int) : List Int := P.take a ++ (L.take j ++ P.drop (a + j))
theorem ovl_zero (P L : List Int) (a : Nat) : ovl P a 0 L = P := by simp [ovl]
theorem ovl_len {P L : List Int} {a j : Nat} (ha : a ≤ P.length) (hj : j ≤ L.length) : (ovl P a j L).length = max P.length (a + j) := by
  simp [ovl]
  omega
theorem ovl_set {P L : List Int} {a j : Nat} {x : Int} (ha : a ≤ P.length) (hj : L[j]? = some x) (h : a + j < P.length) : (ovl P a j L).set (a + j) x = ovl P a (j + 1) L := by
  have hjl : j < L.length := (List.getElem?_eq_some_iff.1 hj).1
  unfold ovl
  rw [List.set_append_right _ _ (by rw [List.length_take]; omega), List.length_take, show a + j - min a P.length = j by omega, List.set_append_right _ _ (by rw [List.length_take]; omega), List.length_take, show j - min j L.length = 0 by omega, take_snoc hj, List.append_assoc]
  congr 2
  rw [List.drop_eq_getElem_cons h]
  rfl
theorem ovl_app {P L : List Int} {a j : Nat} {x : Int} (hj : L[j]? = some x) (h : P.length ≤ a + j) : ovl P a j L ++ [x] = ovl P a (j + 1) L := by
  unfold ovl
  rw [List.drop_eq_nil_of_le h, List.drop_eq_nil_of_le (by omega), take_snoc hj]
  simp
theorem ovl_wrL {D L : List Int} {a : Nat} (hL : 1 ≤ L.length) : ovl (D ++ List.replicate (a - D.length) 0) a L.length L = wrL D a L := by
  unfold ovl wrL
  rw [if_neg (by rintro rfl; simp at hL), List.take_append, List.take_replicate, List.drop_append, List.drop_replicate, show min (a - D.length) (a - D.length) = a - D.length by omega, show a - D.length - (a + L.length - D.length) = 0 by omega, List.take_length]
  simp
theorem ovl_ok {P L : List Int} {a j : Nat} (h : ∀ x ∈ P, okInt x) (h' : ∀ x ∈ L, okInt x) : ∀ x ∈ ovl P a j L, okInt x := by
  intro x hx
  unfold ovl at hx
  rcases List.mem_append.1 hx with h1 | h1
  · exact h x (List.mem_of_mem_take h1)
  · rcases List.mem_append.1 h1 with h1 | h1
    · exact h' x (List.mem_of_mem_take h1)
    · exact h x (List.mem_of_mem_drop h1)

def lenW : Value → Nat | .slice _ n _ => n | _ => 0

set_option maxHeartbeats 2000000 in
theorem overlaid_any {A A1 : Option Addr} {n c n1 c1 a : Nat} {D L1 : List Int} {w : World} {L L' B B' : Nat} (h : Ints w L B A n D) (h' : Ints w L' B' A1 n1 L1) (hB : B ≤ w.heap.size) (hB' : B' ≤ w.heap.size) (hn : n ≤ 1000) (hn1 : n1 ≤ 1000) (h1 : 1 ≤ n1) (ha : a ≤ 1000) :
    Calls Tryd.prog 138 #[.slice A n c, .int .i64 (a : Int), .slice A1 n1 c1] w (ListPost (wrL D a L1) w) := by
  have HL := Lib.hid h.len
  have HL1 := Lib.hid h'.len
  have hok := Lib.hid h.ok
  have hok1 := Lib.hid h'.ok
  have hpos : (0 : Int) < (n1 : Int) := by omega
  go_enter Tryd.func138, Tryd.ntmps138
  go_wp2_with fail
  refine (copyInts_own h hB (by omega)).mono ?_
  rintro e w1 ⟨v, rfl, hb, hown⟩
  rw [← HL.out] at hown
  obtain ⟨A0, c0, rfl, hc0, _⟩ := hown.ints hok.out
  have HO := Lib.hid hown
  have HB := Lib.hid hb
  have I1 := Lib.hid (h'.below hb hB')
  clear hown hb h h'
  go_wp2
  go_loopw [7] (fun o wr => ∃ (A2 : Option Addr) (N c2 : Nat), o = .slice A2 N c2 ∧ n ≤ N ∧ N ≤ max n a ∧ Hid (OwnI wr w.heap.size (.slice A2 N c2) N (D ++ List.replicate (N - n) 0)) ∧ Hid (Below w.heap.size w wr) ∧ Hid (Ints wr L' B' A1 n1 L1)) (fun o _ => a - lenW o)
  case atStart => exact ⟨A0, n, c0, rfl, Nat.le_refl _, by omega, (show OwnI _ _ _ _ _ by simpa using HO.out), HB, I1⟩
  case round =>
    obtain ⟨A2, N, c2, rfl, hN, hN2, ho, hb, hi⟩ := hrel
    have hsz := hb.out.size
    by_cases hlt : N < a
    · have hlti : (N : Int) < (a : Int) := by omega
      go_wp2_with (at_builtin; refine wpList_append_ints rfl _ _ rfl w.heap.size (.slice A2 N c2) N _ rfl (ho.out.alloc _) _ 1 1 [0] rfl (one_zero_ints _ 0 (by unfold okInt; omega)) (by omega) (by simp; omega) ?_)
      intro v' w' hown' hg'
      have hbc := below_grown (ho.out.alloc (.cells #[.int .i64 0] 3)) hg' (by simp; omega)
      have hb' := ((hb.out.alloc (by omega) (.cells #[.int .i64 0] 3)).trans hbc)
      have hi' := (hi.out.alloc (by omega) (.cells #[.int .i64 0] 3)).below hbc hB'
      have hl : D ++ (List.replicate (N - n) 0 ++ [0]) = D ++ List.replicate (N + 1 - n) 0 := by
        rw [show N + 1 - n = (N - n) + 1 by omega, List.replicate_succ']
      try rw [List.append_assoc] at hown'
      rw [hl] at hown'
      obtain ⟨A3, c3, rfl, _, _⟩ := hown'.ints (fun x hx => by
        rcases List.mem_append.1 hx with h2 | h2
        · exact hok.out x h2
        · rw [List.eq_of_mem_replicate h2]; unfold okInt; omega)
      have HO' := Lib.hid hown'
      have HB' := Lib.hid hb'
      have HI' := Lib.hid hi'
      clear hown' hb' hi' hbc hg' ho hb hi hl
      go_wp2
      go_roundw
      case rel => exact ⟨A3, N + 1, c3, rfl, by omega, by omega, HO', HB', HI'⟩
      case measure => simp [lenW]; omega
    · have hlti : (a : Int) ≤ (N : Int) := by omega
      go_wp2
      obtain ⟨P, hP⟩ : ∃ P, D ++ List.replicate (N - n) 0 = P := ⟨_, rfl⟩
      have hPl : P.length = N := by rw [← hP, List.length_append, List.length_replicate, ← HL.out]; omega
      have hPw : Hid (ovl P a n1 L1 = wrL D a L1) := by
        show _ = _
        have e : N - n = a - D.length := by rw [← HL.out]; omega
        rw [← hP, e, HL1.out]
        exact ovl_wrL (by rw [← HL1.out]; exact h1)
      have hPo : Hid (∀ x ∈ P, okInt x) := by
        show ∀ x ∈ P, okInt x
        intro x hx
        rw [← hP] at hx
        rcases List.mem_append.1 hx with h2 | h2
        · exact hok.out x h2
        · rw [List.eq_of_mem_replicate h2]; unfold okInt; omega
      rw [hP] at ho
      clear hP
      go_loopw [7, 8] (fun o i wt => ∃ (A3 : Option Addr) (M c3 j : Nat), o = .slice A3 M c3 ∧ i = .int .i64 (j : Int) ∧ j ≤ n1 ∧ M = max N (a + j) ∧ Hid (OwnI wt w.heap.size (.slice A3 M c3) M (ovl P a j L1)) ∧ Hid (Below w.heap.size w wt) ∧ Hid (Ints wt L' B' A1 n1 L1)) (fun _ i _ => n1 - (intOf i).toNat)
      case atStart => exact ⟨A2, N, c2, 0, rfl, rfl, by omega, by omega, (show OwnI _ _ _ _ _ by rw [ovl_zero]; exact ho.out), hb, hi⟩
      case round =>
        clear ho hb hi hsz
        obtain ⟨A3, M, c3, j, rfl, rfl, hj1, hM, ho, hb, hi⟩ := hrel
        have hsz := hb.out.size
        have HMM := Lib.hid hM
        have hMl : M ≤ 2000 := by omega
        clear hM
        by_cases hj : j < n1
        · have hji : (j : Int) < (n1 : Int) := by omega
          have hj0 : (0 : Int) ≤ (j : Int) := by omega
          obtain ⟨t, ht⟩ : ∃ t : Nat, t = a + j := ⟨_, rfl⟩
          have hw : IntKind.i64.wrap ((a : Int) + (j : Int)) = (t : Int) := by rw [IntWalk.i64_in _ (by omega)]; omega
          have ht0 : (0 : Int) ≤ (t : Int) := by omega
          have HTT := Lib.hid ht
          clear ht
          have hlx : j < L1.length := by rw [← HL1.out]; exact hj
          obtain ⟨bx, ox, x, rfl, _, hc, hx⟩ := hi.out.at_ hj
          have hxo : okInt x := hok1.out x (List.mem_of_getElem? hx.out)
          by_cases hin : t < M
          · have hini : (t : Int) < (M : Int) := by omega
            obtain ⟨g, c4, e, hg1, hg2, hg3, hcell⟩ := ho.out.some_ (by omega)
            injection e with e1 e2 e3
            subst e1; subst e3
            obtain ⟨y, hy, hf⟩ := hcell t hin
            have HO' : Hid (OwnI (wr.setCell ⟨g, t, none⟩ (.int .i64 x)) w.heap.size (.slice (some ⟨g, 0, none⟩) M c3) M (ovl P a (j + 1) L1)) := by
              show OwnI _ _ _ _ _
              have h2 := ho.out.put_in hin x
              have hM := HMM.out
              have ht := HTT.out
              rw [ht, ovl_set (by omega) hx.out (by omega)] at h2
              rw [ht]
              exact h2
            have HB' : Hid (Below w.heap.size w (wr.setCell ⟨g, t, none⟩ (.int .i64 x))) := below_set hb.out hg1 _
            have HI' : Hid (Ints (wr.setCell ⟨g, t, none⟩ (.int .i64 x)) L' B' (some ⟨bx, ox, none⟩) n1 L1) := hi.out.set_ (Or.inr (by omega)) _
            clear hcell ho hb hi
            go_wp2
            go_roundw
            case rel => exact ⟨_, M, c3, j + 1, rfl, by go_num, by omega, (by have := HMM.out; have := HTT.out; omega), HO', HB', HI'⟩
            case measure => simp [intOf]; omega
          · have hini : (M : Int) ≤ (t : Int) := by omega
            go_wp2_with (at_builtin; refine wpList_append_ints rfl _ _ rfl w.heap.size (.slice A3 M c3) M _ rfl (ho.out.alloc _) _ 1 1 [x] rfl (one_zero_ints _ x hxo) (by omega) (by simp; omega) ?_)
            intro v' w' hown' hg'
            have hbc := below_grown (ho.out.alloc (.cells #[.int .i64 x] 3)) hg' (by simp; omega)
            have hb' := ((hb.out.alloc (by omega) (.cells #[.int .i64 x] 3)).trans hbc)
            have hi' := (hi.out.alloc (by omega) (.cells #[.int .i64 x] 3)).below hbc hB'
            rw [ovl_app hx.out (by have := HMM.out; have := HTT.out; omega)] at hown'
            obtain ⟨A4, c4, rfl, _, _⟩ := hown'.ints (ovl_ok hPo.out hok1.out)
            have HO' := Lib.hid hown'
            have HB' := Lib.hid hb'
            have HI' := Lib.hid hi'
            clear hown' hb' hi' hbc hg' ho hb hi
            go_wp2
            go_roundw
            case rel => exact ⟨A4, M + 1, c4, j + 1, rfl, by go_num, by omega, (by have := HMM.out; have := HTT.out; omega), HO', HB', HI'⟩
            case measure => simp [intOf]; omega
        · obtain rfl : j = n1 := by omega
          rw [hPw.out] at ho
          obtain ⟨A4, c4, e, hc4, hi4⟩ := ho.out.ints (wrL_ok hok.out hok1.out)
          injection e with e1 e2 e3
          subst e1; subst e3
          have HI4 := Lib.hid hi4
          clear hi4 ho
          go_wp2
          go_ret
          exact ⟨_, _, _, rfl, hc4, hb.out, HI4.out⟩
end Go.Proofs.YtdiebkaedjlckaaDoor
