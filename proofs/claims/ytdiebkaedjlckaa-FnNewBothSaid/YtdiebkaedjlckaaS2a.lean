/- Contracts of the model's validReader and ValidReader. -/
import Derived.Test.YtdiebkaedjlckaaC2c
import Derived.Test.YtdiebkaedjlckaaS1d
namespace Go.Proofs.Ytdiebkaedjlckaa
open Go.ChangeShapes Go.WideShapes Go.ChangeAt Go.RowKit
set_option linter.unusedSimpArgs false
set_option linter.unusedVariables false

set_option maxHeartbeats 2000000 in
theorem sValidReader0_any {A A' A2 : Option Addr} {n c n' c' n2 c2 : Nat} {D S R : List Int} {p q z : Int} {w : World} {L L' B B' M C : Nat} (h : Ints w L B A n D) (h' : Ints w L' B' A' n' S) (g : Ints w M C A2 n2 R) (hB : B ≤ w.heap.size) (hB' : B' ≤ w.heap.size) (hC : C ≤ w.heap.size) :
    Calls Try.prog 71 #[.agg #[.slice (A) n c, .int .i64 (p), .slice (A') n' c', .int .i64 (q), .slice (A2) n2 c2, .int .i64 (z)]] w (BoolB (validR D p S q R z) w) := by
  have HL := Lib.hid h.len
  have HG := Lib.hid g.len
  have H1 := Lib.hid (h.alloc hB (.cells #[.slice (A) n c, .int .i64 (p), .slice (A') n' c', .int .i64 (q), .slice (A2) n2 c2, .int .i64 (z)] 71))
  have H2 := Lib.hid (h'.alloc hB' (.cells #[.slice (A) n c, .int .i64 (p), .slice (A') n' c', .int .i64 (q), .slice (A2) n2 c2, .int .i64 (z)] 71))
  have G1 := Lib.hid (g.alloc hC (.cells #[.slice (A) n c, .int .i64 (p), .slice (A') n' c', .int .i64 (q), .slice (A2) n2 c2, .int .i64 (z)] 71))
  have X0 := Lib.hid (Box.new w 71 [.slice (A) n c, .int .i64 (p), .slice (A') n' c', .int .i64 (q), .slice (A2) n2 c2, .int .i64 (z)])
  clear h h' g
  go_enter Try.func71, Try.ntmps71
  go_wp2_with fail
  refine (validDevice_any H1.out H2.out (by first | omega | (simp; omega) | (simp; done)) (by first | omega | (simp; omega) | (simp; done))).mono ?_
  rintro e w1 ⟨rfl, hb1⟩
  (try simp only [World.size_alloc, World.size_setCell, World.size_drew] at hb1)
  have E1 : Hid (Below w.heap.size w w1) := below_step hb1 (by go_grown) (by omega)
  have s1 := hb1.size
  (try simp only [World.size_alloc, World.size_setCell, World.size_drew] at s1)
  have X1 := Lib.hid (X0.out.below hb1 (by omega))
  have I1 := Lib.hid (H1.out.below hb1 (by omega))
  have G2 := Lib.hid (G1.out.below hb1 (by omega))
  clear hb1 H1 H2 G1 X0
  have x0 := (X1.out.2 0 _ rfl).1; have x1 := (X1.out.2 1 _ rfl).1; have x2 := (X1.out.2 2 _ rfl).1; have x3 := (X1.out.2 3 _ rfl).1; have x4 := (X1.out.2 4 _ rfl).1; have x5 := (X1.out.2 5 _ rfl).1
  cases hv : validD D p S q
  · have HV := Lib.hid hv
    clear hv
    go_wp2
    go_ret
    exact ⟨ret_bool (by simp [validR, HV.out]), E1.out⟩
  · have hp := (validD_iff.1 hv).2.2.2.1
    have hD60 := bytesB_le (validD_iff.1 hv).1
    have HV := Lib.hid hv
    clear hv
    cases hz : inB z 1 16
    · go_wp2_with (go_at_call 51; refine (inRange_any).mono ?_; rintro e w' ⟨rfl, rfl⟩)
      go_ret
      exact ⟨ret_bool (by simp [validR, HV.out, hz]), E1.out⟩
    · have hz1 := inB_iff.1 hz
      obtain ⟨a, rfl⟩ := Int.eq_ofNat_of_zero_le hp.1
      by_cases hl : (n2 : Int) ≤ z
      · have HE : Hid (validR D a S q R z = aheadB R D a) := by
          show _ = _
          have := HG.out
          simp [validR, HV.out, hz]
          omega
        by_cases h1 : (n2 : Int) ≤ (a : Int)
        · have f1 : ¬ a < n2 := by omega
          have fz : ¬ z < 0 := by omega
          have fz0 : 0 ≤ z := by omega
          by_cases h0 : n2 = 0
          · have HT : Hid (aheadB R D a = true) := by show _ = _; have e1 := HG.out; unfold aheadB; rw [decide_eq_true (show R.length = 0 by omega)]; rfl
            have f0 : ¬ 0 < n2 := by omega
            clear h0
            by_cases h2 : n < a
            all_goals
              go_wp2_with (go_at_call 51; refine (inRange_any).mono ?_; rintro e w' ⟨rfl, rfl⟩)
              all_goals (try (exfalso; omega))
              go_loopw [3] (fun i wr => i = .int .i64 0 ∧ (∃ m, wr = w1.drewN m)) (fun i _ => 0)
              case atStart => exact ⟨rfl, 0, rfl⟩
              case round =>
                obtain ⟨rfl, m, rfl⟩ := hrel
                go_wp2
                go_ret
                exact ⟨ret_bool (by rw [HE.out, HT.out]), below_drewN E1.out m⟩
          · have f0 : 0 < n2 := by omega
            by_cases h2 : n < a
            · go_wp2_with (go_at_call 51; refine (inRange_any).mono ?_; rintro e w' ⟨rfl, rfl⟩)
              go_ret
              exact ⟨ret_bool (by rw [HE.out]; have e1 := HG.out; have e2 := HL.out; unfold aheadB; rw [decide_eq_false (show ¬ R.length = 0 by omega), decide_eq_false (show ¬ a ≤ D.length by omega)]; simp), E1.out⟩
            · obtain ⟨t, ht⟩ : ∃ t : Nat, t = a - n2 := ⟨_, rfl⟩
              have hw : IntKind.i64.wrap ((a : Int) - (n2 : Int)) = (t : Int) := by rw [IntWalk.i64_in _ (by omega)]; omega
              have htn : t + n2 ≤ n := by omega
              have hn60 : n ≤ 60 := by rw [HL.out]; exact hD60
              have HE2 : Hid (aheadB R D a = sameB ((D.drop t).take n2) R) := by
                show _ = _
                have e1 := HG.out
                have e2 := HL.out
                unfold aheadB
                rw [decide_eq_false (show ¬ R.length = 0 by omega), decide_eq_true (show R.length ≤ a by omega), decide_eq_true (show a ≤ D.length by omega), show a - R.length = t by omega, ← e1]
                simp
              have HTE := Lib.hid ht
              clear ht
              go_wp2_with (go_at_call 51; refine (inRange_any).mono ?_; rintro e w' ⟨rfl, rfl⟩)
              go_loopw [3] (fun i wr => ∃ k : Nat, k ≤ n2 ∧ i = .int .i64 k ∧ (∃ m, wr = w1.drewN m) ∧ SameTo R ((D.drop t).take n2) k) (fun i _ => n2 - (intOf i).toNat)
              case atStart => exact ⟨0, Nat.zero_le _, rfl, ⟨0, rfl⟩, fun j x y hj => absurd hj (by omega)⟩
              case round =>
                obtain ⟨k, hk, rfl, ⟨m, rfl⟩, hst⟩ := hrel
                have HS := Lib.hid hst
                clear hst
                by_cases hlt : k < n2
                · obtain ⟨u, hu⟩ : ∃ u : Nat, u = t + k := ⟨_, rfl⟩
                  obtain ⟨b, o, x, rfl, _, hc, hx⟩ := G2.out.at_ hlt
                  obtain ⟨b', o', y, rfl, _, hc', hy⟩ := I1.out.at_ (k := u) (by omega)
                  have hwk : IntKind.i64.wrap ((t : Int) + (k : Int)) = (u : Int) := by rw [IntWalk.i64_in _ (by omega)]; omega
                  have hyE : Hid (((D.drop t).take n2)[k]? = some y) := by
                    show _ = _
                    rw [List.getElem?_take_of_lt hlt, List.getElem?_drop, ← hu]
                    exact hy.out
                  have hk0 : (0 : Int) ≤ (k : Int) := by omega
                  have hk1 : (k : Int) < (n2 : Int) := by omega
                  have hu0 : (0 : Int) ≤ (u : Int) := by omega
                  have hu1 : (u : Int) < (n : Int) := by omega
                  clear hu
                  by_cases hxy : x = y
                  · subst hxy
                    go_wp2
                    go_quiet (fail)
                    go_wp2
                    go_roundw
                    case rel => exact ⟨k + 1, by omega, by go_num, ⟨_, rfl⟩, HS.out.succ hx.out hyE.out⟩
                    case measure => simp [intOf]; omega
                  · have hb : (x != y) = true := by rw [bne_iff_ne]; exact hxy
                    go_wp2
                    go_quiet (fail)
                    go_wp2
                    go_ret
                    refine ⟨ret_bool ?_, below_drewN (below_drewN E1.out _) _⟩
                    rw [HE.out, HE2.out]
                    have hne : ¬ (D.drop t).take n2 = R := fun e => by
                      have h3 := hyE.out
                      rw [e, hx.out] at h3
                      injection h3 with h3
                      exact hxy h3
                    simp [sameB, hne]
                · go_wp2
                  go_ret
                  refine ⟨ret_bool ?_, below_drewN E1.out _⟩
                  rw [HE.out, HE2.out]
                  have he : R = (D.drop t).take n2 := eq_of_take_all (by rw [List.length_take, List.length_drop, ← HG.out, ← HL.out]; omega) (fun j x y g1 g2 => HS.out j x y (by have := HG.out; have := (List.getElem?_eq_some_iff.1 g1).1; omega) g1 g2)
                  simp [sameB, ← he]
        · have f1 : a < n2 := by omega
          go_wp2_with (go_at_call 51; refine (inRange_any).mono ?_; rintro e w' ⟨rfl, rfl⟩)
          go_ret
          exact ⟨ret_bool (by rw [HE.out]; have e1 := HG.out; unfold aheadB; rw [decide_eq_false (show ¬ R.length = 0 by omega), decide_eq_false (show ¬ R.length ≤ a by omega)]; simp), E1.out⟩
      · have hl2 : z < (n2 : Int) := by omega
        go_wp2_with (go_at_call 51; refine (inRange_any).mono ?_; rintro e w' ⟨rfl, rfl⟩)
        go_ret
        exact ⟨ret_bool (by have := HG.out; simp [validR, HV.out, hz]; omega), E1.out⟩
theorem ValidReader_x {A A' A2 : Option Addr} {n c n' c' n2 c2 : Nat} {D S R : List Int} {p q z : Int} {w : World} {L L' B B' M C : Nat} (h : Ints w L B A n D) (h' : Ints w L' B' A' n' S) (g : Ints w M C A2 n2 R) (hB : B ≤ w.heap.size) (hB' : B' ≤ w.heap.size) (hC : C ≤ w.heap.size) (hnc : n ≤ c) :
    Calls Try.prog 40 #[.agg #[.slice (A) n c, .int .i64 (p), .slice (A') n' c', .int .i64 (q), .slice (A2) n2 c2, .int .i64 (z)]] w (BoolB (validR D p S q R z) w) := ValidReader_any h h' g hB hB' hC hnc
end Go.Proofs.Ytdiebkaedjlckaa
