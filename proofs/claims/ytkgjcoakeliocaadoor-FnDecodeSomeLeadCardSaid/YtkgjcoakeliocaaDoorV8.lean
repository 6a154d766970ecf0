/- The model's small functions of codes, and decode. -/
import Derived.Test.YtkgjcoakeliocaaDoorV7
import Derived.Test.YtkgjcoakeliocaaDoorS1a
namespace Go.Proofs.YtkgjcoakeliocaaDoor
open Go.ChangeShapes Go.WideShapes Go.ChangeAt Go.RowKit
set_option linter.unusedSimpArgs false
set_option linter.unusedVariables false
set_option maxRecDepth 100000

theorem SisLead_any {b : Int} {w : World} : Calls Tryd.prog 65 #[.int .i64 b] w fun e w' => e = .returned (.bool (leadB b)) ∧ w = w' := by
  go_enter Tryd.func65, Tryd.ntmps65
  go_wp2_with (go_at_call 68; refine (inRange_any).mono ?_; rintro e w' ⟨rfl, rfl⟩)
  go_ret
  exact ⟨rfl, rfl⟩
theorem SisTail_any {b : Int} {w : World} : Calls Tryd.prog 66 #[.int .i64 b] w fun e w' => e = .returned (.bool (tailB b)) ∧ w = w' := by
  go_enter Tryd.func66, Tryd.ntmps66
  go_wp2_with (go_at_call 68; refine (inRange_any).mono ?_; rintro e w' ⟨rfl, rfl⟩)
  go_ret
  exact ⟨rfl, rfl⟩
theorem SvalidPoint_any {p : Int} {w : World} : Calls Tryd.prog 70 #[.int .i64 p] w fun e w' => e = .returned (.bool (ptB p)) ∧ w = w' := by
  cases h : inB p 0 2047
  all_goals
    go_enter Tryd.func70, Tryd.ntmps70
    go_wp2_with (go_at_call 68; refine (inRange_any).mono ?_; rintro e w' ⟨rfl, rfl⟩)
    go_ret
    exact ⟨ret_bool (by simp [ptB, h]), rfl⟩
theorem validLead_any {n : Int} {w : World} : Calls Tryd.prog 62 #[.int .i64 n] w fun e w' => e = .returned (.bool (waitB n)) ∧ w = w' := by
  by_cases h0 : n = 0
  · subst h0
    go_enter Tryd.func62, Tryd.ntmps62
    go_wp2
    go_ret
    exact ⟨rfl, rfl⟩
  · have h1 : (n == 0) = false := by simp [h0]
    go_enter Tryd.func62, Tryd.ntmps62
    go_wp2_with (go_at_call 65; refine SisLead_any.mono ?_; rintro e w' ⟨rfl, rfl⟩)
    go_ret
    exact ⟨ret_bool (by simp [waitB, h0]), rfl⟩
theorem validMode_any {n : Int} {w : World} : Calls Tryd.prog 63 #[.int .i64 n] w fun e w' => e = .returned (.bool (inB n 0 3)) ∧ w = w' := by
  go_enter Tryd.func63, Tryd.ntmps63
  go_wp2_with (go_at_call 68; refine (inRange_any).mono ?_; rintro e w' ⟨rfl, rfl⟩)
  go_ret
  exact ⟨rfl, rfl⟩
set_option maxHeartbeats 1000000 in
theorem SvalidPoints_any {A : Option Addr} {n c : Nat} {xs : List Int} {w : World} {L B : Nat} (h : Ints w L B A n xs) :
    Calls Tryd.prog 48 #[.slice A n c] w fun e w' => e = .returned (.bool (ptsB xs)) ∧ w = w' := by
  have hm := h.max
  have HL := Lib.hid h.len
  go_enter Tryd.func48, Tryd.ntmps48
  go_wp2
  go_loop [3] (fun i => ∃ k : Nat, k ≤ n ∧ i = .int .i64 k ∧ (xs.take k).all ptB = true) (fun i => n - (intOf i).toNat)
  case atStart => exact ⟨0, Nat.zero_le _, rfl, rfl⟩
  case round =>
    obtain ⟨k, hk, rfl, hall⟩ := hrel
    have HA := Lib.hid hall
    clear hall
    by_cases hlt : k < n
    · obtain ⟨b, o, x, rfl, _, hc, hx⟩ := h.at_ hlt
      cases hb : ptB x
      · go_wp2_with (go_at_call 70; refine (SvalidPoint_any).mono ?_; rintro e w' ⟨rfl, rfl⟩)
        go_ret
        exact ⟨ret_bool (by simp [ptsB, all_no hx.out hb]), rfl⟩
      · go_wp2_with (go_at_call 70; refine (SvalidPoint_any).mono ?_; rintro e w' ⟨rfl, rfl⟩)
        go_round
        case rel => exact ⟨k + 1, by omega, by go_num, by rw [all_snoc hx.out, HA.out, hb]; rfl⟩
        case measure => simp [intOf]; omega
    · obtain rfl : n = k := by omega
      have HK : Hid (xs.take n = xs) := List.take_of_length_le (by have := HL.out; omega)
      have fin : ptsB xs = decide ((n : Int) ≤ 60) := by
        have h1 := HA.out
        rw [HK.out] at h1
        have h2 := HL.out
        unfold ptsB
        rw [h1, Bool.and_true]
        by_cases h3 : n ≤ 60
        · have h4 : (n : Int) ≤ 60 := by omega
          have h5 : xs.length ≤ 60 := by omega
          simp [h4, h5]
        · have h4 : ¬ (n : Int) ≤ 60 := by omega
          have h5 : ¬ xs.length ≤ 60 := by omega
          simp [h4, h5]
      have HF := Lib.hid fin
      clear fin
      go_wp2
      go_ret
      exact ⟨ret_bool HF.out.symm, rfl⟩
theorem none_new {w0 w : World} (hb : Below w0.heap.size w0 w) : ListPost [] w0 (.returned (.slice (some ⟨w.heap.size, 0, none⟩) 0 0)) (w.alloc (.cells #[] 3)) :=
  ⟨_, _, _, rfl, Nat.le_refl _, hb.alloc hb.size _, (Ints.nil _ _ _ 0 _).1⟩
theorem wrong_any {m b : Int} {w : World} (hb : okInt b) (hc : 0 ≤ b ∧ b ≤ 255) : Calls Tryd.prog 75 #[.int .i64 m, .int .i64 b] w (ListPost (wrg m b) w) := by
  by_cases h2 : m = 2
  · subst h2
    go_enter Tryd.func75, Tryd.ntmps75
    go_wp2
    go_ret
    exact one_new (Below.refl _ _) (by unfold okInt; omega)
  · have e2 : (m == 2) = false := by simp [h2]
    by_cases h3 : m = 3
    · subst h3
      go_enter Tryd.func75, Tryd.ntmps75
      go_wp2
      go_ret
      exact one_new (Below.refl _ _) (by unfold okInt; omega)
    · have e3 : (m == 3) = false := by simp [h3]
      have HE : Hid (wrg m b = []) := by show _ = _; simp [wrg, h2, h3]
      rw [HE.out]
      go_enter Tryd.func75, Tryd.ntmps75
      go_wp2
      go_ret
      exact none_new (Below.refl _ _)
theorem OwnI.shape {w : World} {base n : Nat} {v : Value} {xs : List Int} (h : OwnI w base v n xs) : ∃ A c, v = .slice A n c ∧ n ≤ c := by
  rcases h.2 with ⟨rfl, h0⟩ | ⟨g, cap, cur, rfl, _, _, hnc, _⟩
  · subst h0
    exact ⟨none, 0, rfl, Nat.le_refl _⟩
  · exact ⟨_, _, rfl, hnc⟩
theorem OwnI.zero {w0 : World} (w : World) (hb : w0.heap.size ≤ w.heap.size) : OwnI (w.alloc (.cells #[] 3)) w0.heap.size (.slice (some ⟨w.heap.size, 0, none⟩) 0 0) 0 [] := OwnI.made w hb
theorem wr_len (m b : Int) : (wrg m b).length ≤ 1 := by
  unfold wrg
  split
  · simp
  · split <;> simp
theorem put_put (a b : List Int) (d : Dec) : put a (put b d) = put (a ++ b) d := by simp [put]
theorem put_nil (d : Dec) : put [] d = d := rfl
theorem put_stop (a : List Int) : put a stop0 = (a, 0, false) := by simp [put, stop0]
theorem sm_ok {m lead : Int} {f : Bool} {xs : List Int} (hd : bytesB xs = true) (hl : waitB lead = true) : ∀ x ∈ (sm m f xs lead).1, okInt x := by
  have key : ∀ ys : List Int, allB ys 0 255 = true → ∀ x ∈ (sm m f ys 0).1, okInt x := fun ys hy x hx => by
    cases f
    · rw [sm_wait m _ _ (Nat.le_refl _)] at hx
      refine decB_ok (m := m) ?_ x hx
      unfold body
      split
      · exact hy
      · exact allB_take hy _
    · rw [sm_dec m _ _ (Nat.le_refl _)] at hx
      exact decB_ok hy x hx
  by_cases h0 : lead = 0
  · subst h0
    exact key xs (bytesB_all hd)
  · have hlead := wait_zero hl h0
    rw [sm_ahead hlead]
    exact key _ (bytes1_cons hlead hd).2

/-- Where decode stands: what was made, and what the rest will make. -/
def DecAt (m : Int) (f : Bool) (xs : List Int) (d0 : Dec) (j : Nat) (ld : Int) (zs : List Int) : Prop := d0 = put zs (sm m f (xs.drop j) ld)
set_option maxHeartbeats 8000000 in
theorem decode_to {d0 : Dec} {A : Option Addr} {n c L B : Nat} {xs : List Int} {lead m : Int} {f : Bool} {w : World} (h : Ints w L B A n xs) (hB : B ≤ w.heap.size) (hd : bytesB xs = true) (hl : waitB lead = true) (h00 : d0 = sm m f xs lead) :
    Calls Tryd.prog 64 #[.slice A n c, .int .i64 lead, .bool f, .int .i64 m] w (DsPost d0 w) := by
  have HI := Lib.hid h
  have HL := Lib.hid h.len
  have hn60 : n ≤ 60 := by rw [h.len]; exact bytesB_le hd
  have HA := Lib.hid (bytesB_all hd)
  have HOK : Hid (∀ x ∈ d0.1, okInt x) := by show ∀ x ∈ d0.1, okInt x; rw [h00]; exact sm_ok hd hl
  have HD0 : Hid (DecAt m f xs d0 0 lead []) := by show _ = _; rw [h00]; rfl
  have hld0 : lead = 0 ∨ (194 ≤ lead ∧ lead ≤ 223) := by
    by_cases h0 : lead = 0
    · exact .inl h0
    · exact .inr (leadB_iff.1 (wait_zero hl h0))
  clear h hd hl h00
  go_enter Tryd.func64, Tryd.ntmps64
  go_wp2
  go_loopw [1, 11, 12] (fun ldv o i wr => ∃ (j : Nat) (ld : Int) (A2 : Option Addr) (k2 c2 : Nat) (zs : List Int), j ≤ n ∧ i = .int .i64 j ∧ ldv = .int .i64 ld ∧ (ld = 0 ∨ (194 ≤ ld ∧ ld ≤ 223)) ∧ o = .slice A2 k2 c2 ∧ k2 ≤ 2 * j ∧ Hid (OwnI wr w.heap.size (.slice A2 k2 c2) k2 zs) ∧ Hid (Below w.heap.size w wr) ∧ Hid (DecAt m f xs d0 j ld zs)) (fun _ _ i _ => n - (intOf i).toNat)
  case atStart => exact ⟨0, lead, _, 0, 0, [], Nat.zero_le _, rfl, rfl, hld0, rfl, by omega, OwnI.zero w (Nat.le_refl _), by show Below _ _ _; go_grown, HD0⟩
  case round =>
    clear HD0 hld0
    obtain ⟨j, ld, A2, k2, c2, zs, hj, rfl, rfl, hld, rfl, hk2, HO, HB1, HD0⟩ := hrel
    have hsz := HB1.out.size
    have HI1 : Hid (Ints wr L B A n xs) := HI.out.below HB1.out hB
    by_cases hlt : j < n
    · obtain ⟨b, o, x, rfl, _, hc, hx⟩ := HI1.out.at_ hlt
      have hxb : 0 ≤ x ∧ x ≤ 255 := by have h1 := HA.out; unfold allB at h1; rw [List.all_eq_true] at h1; exact inB_iff.1 (h1 x (List.mem_of_getElem? hx.out))
      have HDR : Hid (xs.drop j = x :: xs.drop (j + 1)) := by
        show _ = _
        have hjl : j < xs.length := by have := HL.out; omega
        have h1 : xs[j] = x := by have := hx.out; rw [List.getElem?_eq_getElem hjl] at this; exact Option.some.inj this
        rw [List.drop_eq_getElem_cons hjl, h1]
      rcases hld with rfl | hld
      · have HS0 : Hid (d0 = put zs (sm m f (x :: xs.drop (j + 1)) 0)) := by show _ = _; have h1 := HD0.out; rw [DecAt, HDR.out] at h1; exact h1
        by_cases h1 : x < 128
        · have HN : Hid (DecAt m f xs d0 (j + 1) 0 (zs ++ [x])) := by show _ = _; have h2 := HS0.out; rw [sm_zero, if_pos h1, put_put] at h2; exact h2
          go_wp2_with (at_builtin; refine wpList_append_ints rfl (.tmp 58) (.tmp 60) rfl w.heap.size _ _ _ rfl (HO.out.alloc _) (some ⟨wr.heap.size, 0, none⟩) 1 1 [x] rfl (lit1 wr (x) (by unfold okInt; omega)) (by omega) (by simp; omega) ?_)
          intro v6 w6 ho6 hg6
          have HB6 : Hid (Below w.heap.size w w6) := (HB1.out.alloc HB1.out.size _).trans (below_grown (HO.out.alloc _) hg6 (by have := HB1.out.size; simp; omega))
          obtain ⟨A6, c6, rfl, hc6⟩ := ho6.shape
          have HO6 := Lib.hid ho6
          clear ho6 hg6
          go_wp2
          go_roundw
          case rel => exact ⟨j + 1, 0, _, _, _, _, by omega, by go_num, rfl, .inl rfl, rfl, by omega, HO6, HB6, (by first | exact HN | (show DecAt _ _ _ _ _ _ _; have h9 := HN.out; rw [List.append_assoc] at h9; exact h9))⟩
          case measure => simp [intOf]; omega
        · have h1b : ¬ x < 128 := h1
          cases hl : leadB x
          · by_cases hm : m = 0
            · have em : (m == 0) = true := by simp [hm]
              have HF : Hid (d0 = (zs, 0, false)) := by show _ = _; have h2 := HS0.out; rw [sm_zero, if_neg h1b, hl, if_neg (by decide), if_pos hm, put_stop] at h2; exact h2
              have hF := HF.out
              subst hF
              go_wp2_with (go_at_call 65; refine SisLead_any.mono ?_; rintro e w9 ⟨rfl, rfl⟩)
              go_ret3
              obtain ⟨A3, c3, e3, hc3, hI3⟩ := HO.out.ints HOK.out
              injection e3 with e1 e2 e3
              subst e1 e3
              exact ⟨_, _, _, rfl, hc3, HB1.out, hI3⟩
            · have em : (m == 0) = false := by simp [hm]
              have HN : Hid (DecAt m f xs d0 (j + 1) 0 (zs ++ wrg m x)) := by show _ = _; have h2 := HS0.out; rw [sm_zero, if_neg h1b, hl, if_neg (by decide), if_neg hm, put_put] at h2; exact h2
              go_wp2_with (first | (go_at_call 65; refine SisLead_any.mono ?_; rintro e w9 ⟨rfl, rfl⟩) | (go_at_call 75; fail))
              refine (wrong_any (m := m) (b := x) (by unfold okInt; omega) hxb).mono ?_
              rintro e w4b ⟨A4, n4, c4, rfl, hc4, hb4, hi4⟩
              have hl4b : n4 ≤ 1 := by have h1 := hi4.len; have h2 := wr_len m (x); omega
              have HO4 := Lib.hid (HO.out.below hb4 (Nat.le_refl _))
              have HB4 : Hid (Below w.heap.size w w4b) := below_step hb4 HB1.out HB1.out.size
              have hs4b := HB4.out.size
              have HJ4 := Lib.hid hi4
              clear hb4 hi4
              go_wp2_with (at_builtin; refine wpList_append_ints rfl (.tmp 50) (.tmp 53) rfl w.heap.size _ _ _ rfl HO4.out A4 n4 c4 _ rfl HJ4.out (by omega) (by omega) ?_)
              intro v5 w5b ho5 hg5
              have HB5 : Hid (Below w.heap.size w w5b) := HB4.out.trans (below_grown HO4.out hg5 hs4b)
              have hs5b := HB5.out.size
              obtain ⟨A5, c5, rfl, hc5⟩ := ho5.shape
              have HO5 := Lib.hid ho5
              clear ho5 hg5
              go_wp2
              go_roundw
              case rel => exact ⟨j + 1, 0, _, _, _, _, by omega, by go_num, rfl, .inl rfl, rfl, by omega, HO5, HB5, (by first | exact HN | (show DecAt _ _ _ _ _ _ _; have h9 := HN.out; rw [List.append_assoc] at h9; exact h9))⟩
              case measure => simp [intOf]; omega
          · have hl2 := leadB_iff.1 hl
            have HN : Hid (DecAt m f xs d0 (j + 1) x (zs)) := by show _ = _; have h2 := HS0.out; rw [sm_zero, if_neg h1b, hl, if_pos rfl] at h2; exact h2
            go_wp2_with (go_at_call 65; refine SisLead_any.mono ?_; rintro e w9 ⟨rfl, rfl⟩)
            go_roundw
            case rel => exact ⟨j + 1, x, _, _, _, _, by omega, by go_num, rfl, .inr hl2, rfl, by omega, HO, HB1, (by first | exact HN | (show DecAt _ _ _ _ _ _ _; have h9 := HN.out; rw [List.append_assoc] at h9; exact h9))⟩
            case measure => simp [intOf]; omega
      · have hld1 : 0 < ld := by omega
        have hok : okInt ld := by unfold okInt; omega
        cases ht : tailB x
        · by_cases hm : m = 0
          · have em : (m == 0) = true := by simp [hm]
            have HF : Hid (d0 = (zs, 0, false)) := by show _ = _; have h2 := HD0.out; rw [DecAt, HDR.out, sm_lead hld1, ht, if_neg (by decide), if_pos hm, put_stop] at h2; exact h2
            have hF := HF.out
            subst hF
            go_wp2_with (go_at_call 66; refine SisTail_any.mono ?_; rintro e w9 ⟨rfl, rfl⟩)
            go_ret3
            obtain ⟨A3, c3, e3, hc3, hI3⟩ := HO.out.ints HOK.out
            injection e3 with e1 e2 e3
            subst e1 e3
            exact ⟨_, _, _, rfl, hc3, HB1.out, hI3⟩
          · have em : (m == 0) = false := by simp [hm]
            have HS0 : Hid (d0 = put (zs ++ wrg m ld) (sm m f (x :: xs.drop (j + 1)) 0)) := by show _ = _; have h2 := HD0.out; rw [DecAt, HDR.out, sm_lead hld1, ht, if_neg (by decide), if_neg hm, put_put] at h2; exact h2
            by_cases h1 : x < 128
            · have HN : Hid (DecAt m f xs d0 (j + 1) 0 ((zs ++ wrg m ld) ++ [x])) := by show _ = _; have h2 := HS0.out; rw [sm_zero, if_pos h1, put_put] at h2; exact h2
              go_wp2_with (first | (go_at_call 66; refine SisTail_any.mono ?_; rintro e w9 ⟨rfl, rfl⟩) | (go_at_call 75; fail))
              refine (wrong_any (m := m) (b := ld) hok (by omega)).mono ?_
              rintro e w4 ⟨A4, n4, c4, rfl, hc4, hb4, hi4⟩
              have hl4 : n4 ≤ 1 := by have h1 := hi4.len; have h2 := wr_len m (ld); omega
              have HO4 := Lib.hid (HO.out.below hb4 (Nat.le_refl _))
              have HB4 : Hid (Below w.heap.size w w4) := below_step hb4 HB1.out HB1.out.size
              have hs4 := HB4.out.size
              have HJ4 := Lib.hid hi4
              clear hb4 hi4
              go_wp2_with (at_builtin; refine wpList_append_ints rfl (.tmp 45) (.tmp 48) rfl w.heap.size _ _ _ rfl HO4.out A4 n4 c4 _ rfl HJ4.out (by omega) (by omega) ?_)
              intro v5 w5 ho5 hg5
              have HB5 : Hid (Below w.heap.size w w5) := HB4.out.trans (below_grown HO4.out hg5 hs4)
              have hs5 := HB5.out.size
              obtain ⟨A5, c5, rfl, hc5⟩ := ho5.shape
              have HO5 := Lib.hid ho5
              clear ho5 hg5
              skip
              go_wp2_with (at_builtin; refine wpList_append_ints rfl (.tmp 58) (.tmp 60) rfl w.heap.size _ _ _ rfl (HO5.out.alloc _) (some ⟨w5.heap.size, 0, none⟩) 1 1 [x] rfl (lit1 w5 (x) (by unfold okInt; omega)) (by omega) (by simp; omega) ?_)
              intro v6 w6 ho6 hg6
              have HB6 : Hid (Below w.heap.size w w6) := (HB5.out.alloc HB5.out.size _).trans (below_grown (HO5.out.alloc _) hg6 (by have := HB5.out.size; simp; omega))
              obtain ⟨A6, c6, rfl, hc6⟩ := ho6.shape
              have HO6 := Lib.hid ho6
              clear ho6 hg6
              go_wp2
              go_roundw
              case rel => exact ⟨j + 1, 0, _, _, _, _, by omega, by go_num, rfl, .inl rfl, rfl, by omega, HO6, HB6, (by first | exact HN | (show DecAt _ _ _ _ _ _ _; have h9 := HN.out; rw [List.append_assoc] at h9; exact h9))⟩
              case measure => simp [intOf]; omega
            · have h1b : ¬ x < 128 := h1
              cases hl : leadB x
              · skip
                have HN : Hid (DecAt m f xs d0 (j + 1) 0 ((zs ++ wrg m ld) ++ wrg m x)) := by show _ = _; have h2 := HS0.out; rw [sm_zero, if_neg h1b, hl, if_neg (by decide), if_neg hm, put_put] at h2; exact h2
                go_wp2_with (first | (go_at_call 66; refine SisTail_any.mono ?_; rintro e w9 ⟨rfl, rfl⟩) | (go_at_call 75; fail))
                refine (wrong_any (m := m) (b := ld) hok (by omega)).mono ?_
                rintro e w4 ⟨A4, n4, c4, rfl, hc4, hb4, hi4⟩
                have hl4 : n4 ≤ 1 := by have h1 := hi4.len; have h2 := wr_len m (ld); omega
                have HO4 := Lib.hid (HO.out.below hb4 (Nat.le_refl _))
                have HB4 : Hid (Below w.heap.size w w4) := below_step hb4 HB1.out HB1.out.size
                have hs4 := HB4.out.size
                have HJ4 := Lib.hid hi4
                clear hb4 hi4
                go_wp2_with (at_builtin; refine wpList_append_ints rfl (.tmp 45) (.tmp 48) rfl w.heap.size _ _ _ rfl HO4.out A4 n4 c4 _ rfl HJ4.out (by omega) (by omega) ?_)
                intro v5 w5 ho5 hg5
                have HB5 : Hid (Below w.heap.size w w5) := HB4.out.trans (below_grown HO4.out hg5 hs4)
                have hs5 := HB5.out.size
                obtain ⟨A5, c5, rfl, hc5⟩ := ho5.shape
                have HO5 := Lib.hid ho5
                clear ho5 hg5
                skip
                go_wp2_with (first | (go_at_call 65; refine SisLead_any.mono ?_; rintro e w9 ⟨rfl, rfl⟩) | (go_at_call 75; fail))
                refine (wrong_any (m := m) (b := x) (by unfold okInt; omega) hxb).mono ?_
                rintro e w4b ⟨A4, n4, c4, rfl, hc4, hb4, hi4⟩
                have hl4b : n4 ≤ 1 := by have h1 := hi4.len; have h2 := wr_len m (x); omega
                have HO4 := Lib.hid (HO5.out.below hb4 (Nat.le_refl _))
                have HB4 : Hid (Below w.heap.size w w4b) := below_step hb4 HB5.out HB5.out.size
                have hs4b := HB4.out.size
                have HJ4 := Lib.hid hi4
                clear hb4 hi4
                go_wp2_with (at_builtin; refine wpList_append_ints rfl (.tmp 50) (.tmp 53) rfl w.heap.size _ _ _ rfl HO4.out A4 n4 c4 _ rfl HJ4.out (by omega) (by omega) ?_)
                intro v5 w5b ho5 hg5
                have HB5 : Hid (Below w.heap.size w w5b) := HB4.out.trans (below_grown HO4.out hg5 hs4b)
                have hs5b := HB5.out.size
                obtain ⟨A5, c5, rfl, hc5⟩ := ho5.shape
                have HO5 := Lib.hid ho5
                clear ho5 hg5
                go_wp2
                go_roundw
                case rel => exact ⟨j + 1, 0, _, _, _, _, by omega, by go_num, rfl, .inl rfl, rfl, by omega, HO5, HB5, (by first | exact HN | (show DecAt _ _ _ _ _ _ _; have h9 := HN.out; rw [List.append_assoc] at h9; exact h9))⟩
                case measure => simp [intOf]; omega
              · have hl2 := leadB_iff.1 hl
                have HN : Hid (DecAt m f xs d0 (j + 1) x ((zs ++ wrg m ld))) := by show _ = _; have h2 := HS0.out; rw [sm_zero, if_neg h1b, hl, if_pos rfl] at h2; exact h2
                go_wp2_with (first | (go_at_call 66; refine SisTail_any.mono ?_; rintro e w9 ⟨rfl, rfl⟩) | (go_at_call 75; fail))
                refine (wrong_any (m := m) (b := ld) hok (by omega)).mono ?_
                rintro e w4 ⟨A4, n4, c4, rfl, hc4, hb4, hi4⟩
                have hl4 : n4 ≤ 1 := by have h1 := hi4.len; have h2 := wr_len m (ld); omega
                have HO4 := Lib.hid (HO.out.below hb4 (Nat.le_refl _))
                have HB4 : Hid (Below w.heap.size w w4) := below_step hb4 HB1.out HB1.out.size
                have hs4 := HB4.out.size
                have HJ4 := Lib.hid hi4
                clear hb4 hi4
                go_wp2_with (at_builtin; refine wpList_append_ints rfl (.tmp 45) (.tmp 48) rfl w.heap.size _ _ _ rfl HO4.out A4 n4 c4 _ rfl HJ4.out (by omega) (by omega) ?_)
                intro v5 w5 ho5 hg5
                have HB5 : Hid (Below w.heap.size w w5) := HB4.out.trans (below_grown HO4.out hg5 hs4)
                have hs5 := HB5.out.size
                obtain ⟨A5, c5, rfl, hc5⟩ := ho5.shape
                have HO5 := Lib.hid ho5
                clear ho5 hg5
                skip
                go_wp2_with (go_at_call 65; refine SisLead_any.mono ?_; rintro e w9 ⟨rfl, rfl⟩)
                go_roundw
                case rel => exact ⟨j + 1, x, _, _, _, _, by omega, by go_num, rfl, .inr hl2, rfl, by omega, HO5, HB5, (by first | exact HN | (show DecAt _ _ _ _ _ _ _; have h9 := HN.out; rw [List.append_assoc] at h9; exact h9))⟩
                case measure => simp [intOf]; omega
        · have HN : Hid (DecAt m f xs d0 (j + 1) 0 (zs ++ [64 * (ld - 192) + x - 128])) := by show _ = _; have h2 := HD0.out; rw [DecAt, HDR.out, sm_lead hld1, ht, if_pos rfl, put_put] at h2; exact h2
          go_wp2_with (first | (go_at_call 66; refine SisTail_any.mono ?_; rintro e w9 ⟨rfl, rfl⟩) | (at_builtin; refine wpList_append_ints rfl (.tmp 31) (.tmp 38) rfl w.heap.size _ _ _ rfl (HO.out.alloc _) (some ⟨wr.heap.size, 0, none⟩) 1 1 [64 * (ld - 192) + x - 128] rfl (lit1 wr (64 * (ld - 192) + x - 128) (by unfold okInt; omega)) (by omega) (by simp; omega) ?_))
          intro v6 w6 ho6 hg6
          have HB6 : Hid (Below w.heap.size w w6) := (HB1.out.alloc HB1.out.size _).trans (below_grown (HO.out.alloc _) hg6 (by have := HB1.out.size; simp; omega))
          obtain ⟨A6, c6, rfl, hc6⟩ := ho6.shape
          have HO6 := Lib.hid ho6
          clear ho6 hg6
          go_wp2
          go_roundw
          case rel => exact ⟨j + 1, 0, _, _, _, _, by omega, by go_num, rfl, .inl rfl, rfl, by omega, HO6, HB6, (by first | exact HN | (show DecAt _ _ _ _ _ _ _; have h9 := HN.out; rw [List.append_assoc] at h9; exact h9))⟩
          case measure => simp [intOf]; omega
    · obtain rfl : n = j := by omega
      have HDN : Hid (xs.drop n = []) := List.drop_of_length_le (by have := HL.out; omega)
      rcases hld with rfl | hld
      · have HF : Hid (d0 = (zs, 0, true)) := by show _ = _; have h1 := HD0.out; rw [DecAt, HDN.out, sm_nil] at h1; simpa [put] using h1
        have hF := HF.out
        subst hF
        go_wp2
        go_ret3
        obtain ⟨A3, c3, e3, hc3, hI3⟩ := HO.out.ints HOK.out
        injection e3 with e1 e2 e3
        subst e1 e3
        exact ⟨_, _, _, rfl, hc3, HB1.out, hI3⟩
      · have hld1 : 0 < ld := by omega
        have hok : okInt ld := by unfold okInt; omega
        cases f
        · have HF : Hid (d0 = (zs, ld, true)) := by show _ = _; have h1 := HD0.out; rw [DecAt, HDN.out, sm_nil] at h1; simpa [put] using h1
          have hF := HF.out
          subst hF
          go_wp2
          go_ret3
          obtain ⟨A3, c3, e3, hc3, hI3⟩ := HO.out.ints HOK.out
          injection e3 with e1 e2 e3
          subst e1 e3
          exact ⟨_, _, _, rfl, hc3, HB1.out, hI3⟩
        · by_cases hm : m = 0
          · have em : (m == 0) = true := by simp [hm]
            have HF : Hid (d0 = (zs, 0, false)) := by show _ = _; have h1 := HD0.out; rw [DecAt, HDN.out, sm_nil] at h1; simpa [put, stop0, hm, hld1] using h1
            have hF := HF.out
            subst hF
            go_wp2
            go_ret3
            obtain ⟨A3, c3, e3, hc3, hI3⟩ := HO.out.ints HOK.out
            injection e3 with e1 e2 e3
            subst e1 e3
            exact ⟨_, _, _, rfl, hc3, HB1.out, hI3⟩
          · have em : (m == 0) = false := by simp [hm]
            have HF : Hid (d0 = (zs ++ wrg m ld, 0, true)) := by show _ = _; have h1 := HD0.out; rw [DecAt, HDN.out, sm_nil] at h1; simpa [put, stop0, hm, hld1] using h1
            have hF := HF.out
            subst hF
            go_wp2_with fail
            refine (wrong_any (m := m) (b := ld) hok (by omega)).mono ?_
            rintro e w4 ⟨A4, n4, c4, rfl, hc4, hb4, hi4⟩
            have hl4 : n4 ≤ 1 := by have h1 := hi4.len; have h2 := wr_len m (ld); omega
            have HO4 := Lib.hid (HO.out.below hb4 (Nat.le_refl _))
            have HB4 : Hid (Below w.heap.size w w4) := below_step hb4 HB1.out HB1.out.size
            have hs4 := HB4.out.size
            have HJ4 := Lib.hid hi4
            clear hb4 hi4
            go_wp2_with (at_builtin; refine wpList_append_ints rfl (.tmp 78) (.tmp 81) rfl w.heap.size _ _ _ rfl HO4.out A4 n4 c4 _ rfl HJ4.out (by omega) (by omega) ?_)
            intro v5 w5 ho5 hg5
            have HB5 : Hid (Below w.heap.size w w5) := HB4.out.trans (below_grown HO4.out hg5 hs4)
            have hs5 := HB5.out.size
            obtain ⟨A5, c5, rfl, hc5⟩ := ho5.shape
            have HO5 := Lib.hid ho5
            clear ho5 hg5
            go_wp2
            go_ret3
            obtain ⟨A3, c3, e3, hc3, hI3⟩ := HO5.out.ints HOK.out
            injection e3 with e1 e2 e3
            subst e1 e3
            exact ⟨_, _, _, rfl, hc3, HB5.out, hI3⟩
end Go.Proofs.YtkgjcoakeliocaaDoor
