/- ValidPoints of the model, CleanPoints of both. -/
import Derived.Test.YtkgjcoakeliocaaDoorV8
import Derived.Test.YtkgjcoakeliocaaDoorC1b
namespace Go.Proofs.YtkgjcoakeliocaaDoor
open Go.ChangeShapes Go.WideShapes Go.ChangeAt Go.RowKit
set_option linter.unusedSimpArgs false
set_option linter.unusedVariables false
set_option maxRecDepth 100000

theorem SValidPoints_any {A : Option Addr} {n c : Nat} {xs : List Int} {w : World} {L B : Nat} (h : Ints w L B A n xs) :
    Calls Tryd.prog 16 #[.slice A n c] w fun e w' => e = .returned (.bool (ptsB xs)) ∧ w = w' := by
  go_enter Tryd.func16, Tryd.ntmps16
  go_wp2_with fail
  refine (SvalidPoints_any h).mono ?_
  rintro e w1 ⟨rfl, rfl⟩
  go_wp2
  go_ret
  exact ⟨rfl, rfl⟩
def cl1 (p : Int) : Int := if 2047 < p then 2047 else p
def clL (xs : List Int) : List Int := xs.map cl1
def clOut (xs : List Int) : List Int := if ptsB xs then clL xs else []
theorem clL_len (xs : List Int) : (clL xs).length = xs.length := by simp [clL]
theorem clL_ok {xs : List Int} (h : ∀ x ∈ xs, okInt x) : ∀ x ∈ clL xs, okInt x := by
  intro x hx
  obtain ⟨p, hp, rfl⟩ := List.mem_map.1 hx
  have := h p hp
  unfold cl1 okInt at *
  split <;> omega
theorem clL_snoc {xs : List Int} {k : Nat} {x : Int} (h : xs[k]? = some x) : clL (xs.take (k + 1)) = clL (xs.take k) ++ [cl1 x] := by
  rw [take_snoc h]; simp [clL]
theorem Ints.put {w : World} {lo hi n b o i : Nat} {xs : List Int} (h : Ints w lo hi (some ⟨b, o, none⟩) n xs) (hi' : i < n) {x : Int} (hx : okInt x) : Ints (w.setCell ⟨b, o + i, none⟩ (.int .i64 x)) lo hi (some ⟨b, o, none⟩) n (xs.set i x) := by
  refine ⟨by rw [List.length_set]; exact h.1, h.2.1, fun y hy => ?_, fun hn => ?_⟩
  · rcases List.mem_or_eq_of_mem_set hy with hy | rfl
    · exact h.2.2.1 y hy
    · exact hx
  · obtain ⟨b', o', e, h1, h2, hc⟩ := h.2.2.2 hn
    injection e with e
    injection e with e1 e2 _
    subst e1 e2
    refine ⟨b, o, rfl, h1, h2, fun j y hy => ?_⟩
    have hl : i < xs.length := by have := h.1; omega
    by_cases e : i = j
    · subst e
      rw [List.getElem?_set_self hl] at hy
      injection hy with hy
      subst hy
      refine ⟨World.cell?_setCell_same w ⟨b, o + i, none⟩ _ (hc i _ (List.getElem?_eq_getElem hl)).1, ?_⟩
      rw [World.frozen?_setCell]
      exact (hc i _ (List.getElem?_eq_getElem hl)).2
    · rw [List.getElem?_set_ne e] at hy
      refine ⟨?_, ?_⟩
      · rw [World.cell?_setCell_other w ⟨b, o + i, none⟩ ⟨b, o + j, none⟩ _ (by simp [e])]
        exact (hc j y hy).1
      · rw [World.frozen?_setCell]
        exact (hc j y hy).2
theorem cl_set {xs : List Int} {k : Nat} {x : Int} (h : xs[k]? = some x) : (clL (xs.take k) ++ xs.drop k).set k (cl1 x) = clL (xs.take (k + 1)) ++ xs.drop (k + 1) := by
  have hk : k < xs.length := (List.getElem?_eq_some_iff.1 h).1
  have h1 : xs[k] = x := by rw [List.getElem?_eq_getElem hk] at h; exact Option.some.inj h
  have hl : (clL (xs.take k)).length = k := by rw [clL_len, List.length_take]; omega
  rw [clL_snoc h, List.set_append_right _ _ (by omega), hl, Nat.sub_self, List.drop_eq_getElem_cons hk, List.set_cons_zero, List.append_assoc]
  rfl
theorem cl_keep {xs : List Int} {k : Nat} {x : Int} (h : xs[k]? = some x) (hx : ¬ 2047 < x) : clL (xs.take k) ++ xs.drop k = clL (xs.take (k + 1)) ++ xs.drop (k + 1) := by
  have hk : k < xs.length := (List.getElem?_eq_some_iff.1 h).1
  have h1 : xs[k] = x := by rw [List.getElem?_eq_getElem hk] at h; exact Option.some.inj h
  rw [clL_snoc h, List.drop_eq_getElem_cons hk, h1, List.append_assoc]
  simp [cl1, hx]
theorem cl_at {xs : List Int} {k : Nat} {x : Int} (h : xs[k]? = some x) : (clL (xs.take k) ++ xs.drop k)[k]? = some x := by
  have hk : k < xs.length := (List.getElem?_eq_some_iff.1 h).1
  have hl : (clL (xs.take k)).length = k := by rw [clL_len, List.length_take]; omega
  rw [List.getElem?_append_right (by omega), hl, Nat.sub_self, List.getElem?_drop, Nat.add_zero, h]
set_option maxHeartbeats 4000000 in
theorem CleanPoints_any {A : Option Addr} {n c L B : Nat} {xs : List Int} {w : World} (h : Ints w L B A n xs) (hB : B ≤ w.heap.size) :
    Calls Tryd.prog 43 #[.slice A n c] w (ListPost (clOut xs) w) := by
  have HI := Lib.hid h
  clear h
  cases hv : ptsB xs
  · have HE : Hid (clOut xs = []) := by show _ = _; simp [clOut, hv]
    rw [HE.out]
    have HV := Lib.hid hv
    clear hv
    go_enter Tryd.func43, Tryd.ntmps43
    go_wp2_with fail
    refine (ValidPoints_any HI.out).mono ?_
    rintro e w1 ⟨rfl, rfl⟩
    rw [HV.out]
    go_wp2
    go_ret
    exact ⟨none, 0, 0, rfl, Nat.le_refl _, Below.refl _ _, (Ints.nil _ _ _ 0 _).1⟩
  · have HE : Hid (clOut xs = clL xs) := by show _ = _; simp [clOut, hv]
    rw [HE.out]
    have HV := Lib.hid hv
    unfold ptsB at hv
    rw [Bool.and_eq_true] at hv
    have hn60 : n ≤ 60 := by rw [HI.out.len]; simpa using hv.1
    have HA := Lib.hid hv.2
    have HL := Lib.hid HI.out.len
    clear hv
    go_enter Tryd.func43, Tryd.ntmps43
    go_wp2_with fail
    refine (ValidPoints_any HI.out).mono ?_
    rintro e w1 ⟨rfl, rfl⟩
    rw [HV.out]
    go_wp2_with fail
    refine (copyList_any HI.out hB (by omega)).mono ?_
    rintro e w1 ⟨A1, n1, c1, rfl, hc1, hb1, hi1⟩
    have hn1 : n1 = n := by have h1 := hi1.len; have h2 := HL.out; omega
    subst hn1
    have s1 := hb1.size
    have HI1 : Hid (Ints w1 w.heap.size w1.heap.size A1 n1 (clL (xs.take 0) ++ xs.drop 0)) := by show Ints _ _ _ _ _ _; simpa [clL] using hi1
    have HB1 := Lib.hid hb1
    clear hb1 hi1 HI
    go_wp2
    go_loopw [13] (fun i wr => ∃ k : Nat, k ≤ n1 ∧ i = .int .i64 k ∧ Hid (Ints wr w.heap.size w1.heap.size A1 n1 (clL (xs.take k) ++ xs.drop k)) ∧ Hid (Below w.heap.size w wr) ∧ w1.heap.size ≤ wr.heap.size) (fun i _ => n1 - (intOf i).toNat)
    case atStart => exact ⟨0, Nat.zero_le _, rfl, HI1, HB1, Nat.le_refl _⟩
    case round =>
      clear HI1 HB1
      obtain ⟨k, hk, rfl, HI1, HB1, hsz⟩ := hrel
      by_cases hlt : k < n1
      · obtain ⟨x, hx⟩ : ∃ x, xs[k]? = some x := ⟨xs[k]'(by have := HL.out; omega), List.getElem?_eq_getElem _⟩
        have hpx : ptB x = true := by have := HA.out; rw [List.all_eq_true] at this; exact this x (List.mem_of_getElem? hx)
        have hpi := ptB_in hpx
        obtain ⟨b, o, x', rfl, hbl, hc, hx'⟩ := HI1.out.at_ hlt
        have hxx : x' = x := by have h1 := hx'.out; rw [cl_at hx] at h1; exact (Option.some.inj h1).symm
        subst hxx
        obtain ⟨b2, o2, e2, hlo, _, hfz⟩ := HI1.out.2.2.2 (by omega)
        injection e2 with e2
        injection e2 with e3 e4 _
        subst e3 e4
        have hf := (hfz k _ hx'.out).2
        have HX := Lib.hid hx
        clear hfz hx hx' hpx
        by_cases h2 : 2047 < x'
        · have HN : Hid (Ints (wr.setCell ⟨b, o + k, none⟩ (.int .i64 2047)) w.heap.size w1.heap.size (some ⟨b, o, none⟩) n1 (clL (xs.take (k + 1)) ++ xs.drop (k + 1))) := by
            show Ints _ _ _ _ _ _
            rw [← cl_set HX.out]
            have e : cl1 x' = 2047 := by simp [cl1, h2]
            rw [e]
            exact HI1.out.put hlt (by unfold okInt; omega)
          have HB2 : Hid (Below w.heap.size w (wr.setCell ⟨b, o + k, none⟩ (.int .i64 2047))) := below_set HB1.out hlo _
          go_wp2_with (go_at_call 53; refine isKept_any.mono ?_; rintro e w' ⟨rfl, rfl⟩)
          go_roundw
          case rel => exact ⟨k + 1, by omega, by go_num, HN, HB2, by simpa using hsz⟩
          case measure => simp [intOf]; omega
        · have HN : Hid (Ints wr w.heap.size w1.heap.size (some ⟨b, o, none⟩) n1 (clL (xs.take (k + 1)) ++ xs.drop (k + 1))) := by
            show Ints _ _ _ _ _ _
            rw [← cl_keep HX.out h2]
            exact HI1.out
          go_wp2_with (go_at_call 53; refine isKept_any.mono ?_; rintro e w' ⟨rfl, rfl⟩)
          go_roundw
          case rel => exact ⟨k + 1, by omega, by go_num, HN, HB1, hsz⟩
          case measure => simp [intOf]; omega
      · obtain rfl : n1 = k := by omega
        have HF : Hid (Ints wr w.heap.size w1.heap.size A1 n1 (clL xs)) := by
          show Ints _ _ _ _ _ _
          have h1 := HI1.out
          rw [List.take_of_length_le (by have := HL.out; omega), List.drop_of_length_le (by have := HL.out; omega), List.append_nil] at h1
          exact h1
        go_wp2
        go_ret
        exact ⟨_, _, _, rfl, hc1, HB1.out, HF.out.more (Nat.le_refl _) hsz⟩
set_option maxHeartbeats 4000000 in
theorem SCleanPoints_any {A : Option Addr} {n c L B : Nat} {xs : List Int} {w : World} (h : Ints w L B A n xs) (hB : B ≤ w.heap.size) :
    Calls Tryd.prog 44 #[.slice A n c] w (ListPost (clOut xs) w) := by
  have HI := Lib.hid h
  clear h
  cases hv : ptsB xs
  · have HE : Hid (clOut xs = []) := by show _ = _; simp [clOut, hv]
    rw [HE.out]
    have HV := Lib.hid hv
    clear hv
    go_enter Tryd.func44, Tryd.ntmps44
    go_wp2_with fail
    refine (SvalidPoints_any HI.out).mono ?_
    rintro e w1 ⟨rfl, rfl⟩
    rw [HV.out]
    go_wp2
    go_ret
    exact ⟨none, 0, 0, rfl, Nat.le_refl _, Below.refl _ _, (Ints.nil _ _ _ 0 _).1⟩
  · have HE : Hid (clOut xs = clL xs) := by show _ = _; simp [clOut, hv]
    rw [HE.out]
    have HV := Lib.hid hv
    unfold ptsB at hv
    rw [Bool.and_eq_true] at hv
    have hn60 : n ≤ 60 := by rw [HI.out.len]; simpa using hv.1
    have HL := Lib.hid HI.out.len
    clear hv
    go_enter Tryd.func44, Tryd.ntmps44
    go_wp2_with fail
    refine (SvalidPoints_any HI.out).mono ?_
    rintro e w1 ⟨rfl, rfl⟩
    rw [HV.out]
    go_wp2
    go_loopw [3, 4] (fun o i wr => ∃ (j : Nat) (A2 : Option Addr) (k2 c2 : Nat), j ≤ n ∧ i = .int .i64 j ∧ o = .slice A2 k2 c2 ∧ k2 ≤ j ∧ Hid (OwnI wr w.heap.size (.slice A2 k2 c2) k2 (clL (xs.take j))) ∧ Hid (Below w.heap.size w wr)) (fun _ i _ => n - (intOf i).toNat)
    case atStart => exact ⟨0, _, 0, 0, Nat.zero_le _, rfl, rfl, by omega, OwnI.zero w (Nat.le_refl _), by show Below _ _ _; go_grown⟩
    case round =>
      obtain ⟨j, A2, k2, c2, hj, rfl, rfl, hk2, HO, HB1⟩ := hrel
      have hsz := HB1.out.size
      have HI1 : Hid (Ints wr L B A n xs) := HI.out.below HB1.out hB
      by_cases hlt : j < n
      · obtain ⟨b, o, x, rfl, _, hc, hx⟩ := HI1.out.at_ hlt
        have HS := Lib.hid (clL_snoc hx.out)
        have hxo : okInt x := HI1.out.ok x (List.mem_of_getElem? hx.out)
        by_cases h2 : 2047 < x
        · have e : cl1 x = 2047 := by simp [cl1, h2]
          rw [e] at HS
          clear e
          go_wp2_with (at_builtin; refine wpList_append_ints rfl (.tmp 20) (.tmp 21) rfl w.heap.size (.slice A2 k2 c2) k2 (clL (xs.take j)) rfl (HO.out.alloc _) (some ⟨wr.heap.size, 0, none⟩) 1 1 [2047] rfl (lit1 wr (2047) (by unfold okInt; omega)) (by omega) (by simp; omega) ?_)
          intro v5 w5 ho5 hg5
          have e5 := below_grown (HO.out.alloc (.cells #[.int .i64 (2047)] 3)) hg5 (by simp; omega)
          have HB5 : Hid (Below w.heap.size w w5) := (HB1.out.alloc hsz _).trans e5
          obtain ⟨A5, c5, rfl, hc5⟩ := ho5.shape
          rw [← HS.out] at ho5
          have HO5 := Lib.hid ho5
          clear ho5 hg5 e5
          go_wp2
          go_roundw
          case rel => exact ⟨j + 1, A5, _, c5, by omega, by go_num, rfl, by omega, HO5, HB5⟩
          case measure => simp [intOf]; omega
        · have e : cl1 x = x := by simp [cl1, h2]
          rw [e] at HS
          clear e
          go_wp2_with (at_builtin; refine wpList_append_ints rfl (.tmp 23) (.tmp 28) rfl w.heap.size (.slice A2 k2 c2) k2 (clL (xs.take j)) rfl (HO.out.alloc _) (some ⟨wr.heap.size, 0, none⟩) 1 1 [x] rfl (lit1 wr (x) hxo) (by omega) (by simp; omega) ?_)
          intro v5 w5 ho5 hg5
          have e5 := below_grown (HO.out.alloc (.cells #[.int .i64 (x)] 3)) hg5 (by simp; omega)
          have HB5 : Hid (Below w.heap.size w w5) := (HB1.out.alloc hsz _).trans e5
          obtain ⟨A5, c5, rfl, hc5⟩ := ho5.shape
          rw [← HS.out] at ho5
          have HO5 := Lib.hid ho5
          clear ho5 hg5 e5
          go_wp2
          go_roundw
          case rel => exact ⟨j + 1, A5, _, c5, by omega, by go_num, rfl, by omega, HO5, HB5⟩
          case measure => simp [intOf]; omega
      · obtain rfl : n = j := by omega
        have HTk : Hid (xs.take n = xs) := List.take_of_length_le (by have := HL.out; omega)
        rw [HTk.out] at HO
        go_wp2
        go_ret
        exact listPost_own HB1.out HO.out (clL_ok HI.out.ok)
end Go.Proofs.YtkgjcoakeliocaaDoor
