/- Contracts of CallsToEnd, impl's and the model's. -/
import Derived.Test.YtbphijnhcpcclaaS1d
namespace Go.Proofs.Ytbphijnhcpcclaa
open Go.ChangeShapes Go.WideShapes Go.ChangeAt Go.RowKit
set_option linter.unusedSimpArgs false
set_option linter.unusedVariables false

/-- How many calls to the end, of at most f; k is the number of the next one. -/
def ctGo (D S : List Int) (N : Int) : Nat → Int → Nat → Int → Int
  | 0, _, _, _ => -1
  | f + 1, p, a, k => if rdSt D p (mayAt S a) = 1 then k else ctGo D S N f (p + ((rdL D p (mayAt S a) N).length : Int)) (a + 1) (k + 1)
def ctOut (D : List Int) (p : Int) (S : List Int) (q N : Int) : Int := if validD D p S q && inB N 1 60 then ctGo D S N (1000 - q.toNat) p q.toNat 1 else -1
/-- A call leaves a valid device. -/
theorem validD_next {D S : List Int} {p : Int} {a : Nat} {k N : Int} (h : validD D p S a = true) (ha : a < 1000) (hN : 1 ≤ N) : validD D (p + ((rdL D p k N).length : Int)) S ((a + 1 : Nat) : Int) = true := by
  obtain ⟨hb, hs, hall, ⟨hp0, hp1⟩, _⟩ := validD_iff.1 h
  have hl := bytesB_le hb
  refine validD_iff.2 ⟨hb, hs, hall, ⟨by omega, ?_⟩, by omega, by omega⟩
  unfold rdL
  split
  · simp; exact hp1
  · rw [List.length_take, List.length_drop]; omega

set_option maxHeartbeats 2000000 in
theorem callsToEnd_any {A A' : Option Addr} {n c n' c' a b m : Nat} {D S : List Int} {p N : Int} {w : World} {L B L' B' : Nat} (hX : Box w b [.slice (A) n c, .int .i64 (p), .slice (A') n' c', .int .i64 ((a : Int))]) (h : Ints w L B A n D) (h' : Ints w L' B' A' n' S)
    (hb : b < L ∨ B ≤ b) (hb' : b < L' ∨ B' ≤ b) (hB : B ≤ w.heap.size) (hB' : B' ≤ w.heap.size) (hnc : n ≤ c) (hv : validD D p S a = true) (hm : a + m = 1000) (hN : 1 ≤ N) (hN' : N ≤ 60) :
    Calls Try.prog 62 #[.iface 64 (.pointer (some ⟨b, 0, none⟩)), .int .i64 N, .int .i64 m] w fun e w' => e = .returned (.int .i64 (ctGo D S N m p a 1)) ∧ Turn w.heap.size b w w' := by
  obtain ⟨R, hR⟩ : ∃ R, ctGo D S N m p a 1 = R := ⟨_, rfl⟩
  rw [hR]
  have HR := Lib.hid hR
  have HX := Lib.hid hX
  have HD := Lib.hid h
  have HS := Lib.hid h'
  have HV := Lib.hid hv
  have hbw := hX.lt
  clear hR hX h h' hv
  go_enter Try.func62, Try.ntmps62
  go_wp2
  go_loopw [7] (fun i wr => ∃ (j : Nat) (p' : Int), j ≤ m ∧ i = .int .i64 ((j : Int) + 1) ∧ Hid (Box wr b [.slice (A) n c, .int .i64 (p'), .slice (A') n' c', .int .i64 (((a + j : Nat) : Int))]) ∧ Hid (Ints wr L B A n D) ∧ Hid (Ints wr L' B' A' n' S) ∧ Hid (validD D p' S ((a + j : Nat) : Int) = true) ∧ Hid (Turn w.heap.size b w wr) ∧ Hid (ctGo D S N (m - j) p' (a + j) ((j : Int) + 1) = R)) (fun i _ => m + 1 - (intOf i).toNat)
  case atStart => exact ⟨0, p, Nat.zero_le _, by simp, HX, HD, HS, HV, Turn.refl _ _ _, HR⟩
  case round =>
    obtain ⟨j, p', hj, rfl, hX, hD, hS, hV, hT, hR⟩ := hrel
    have hsz := hT.out.size
    by_cases hlt : j < m
    · have hrec : ctGo D S N (m - j) p' (a + j) ((j : Int) + 1) = if rdSt D p' (mayAt S (a + j)) = 1 then (j : Int) + 1 else ctGo D S N (m - (j + 1)) (p' + ((rdL D p' (mayAt S (a + j)) N).length : Int)) (a + (j + 1)) ((j : Int) + 1 + 1) := by
        rw [show m - j = (m - (j + 1)) + 1 from by omega, ctGo]; rfl
      rw [hR.out] at hrec
      have HREC := Lib.hid hrec
      clear hrec
      go_wp2_with fail
      refine (read_any hX.out hD.out hS.out hb hb' (by omega) (by omega) hnc hV.out (by omega) hN hN').mono ?_
      rintro e w1 ⟨A1, n1, c1, rfl, _, ht1, _, hx1⟩
      have HT1 := Lib.hid (hT.out.trans (ht1.mono hsz))
      have HX1 := Lib.hid hx1
      have HD1 := Lib.hid (hD.out.turn ht1 (by omega) hb)
      have HS1 := Lib.hid (hS.out.turn ht1 (by omega) hb')
      have HV1 := Lib.hid (validD_next (k := mayAt S (a + j)) hV.out (by omega) hN)
      clear ht1 hx1
      by_cases hend : rdSt D p' (mayAt S (a + j)) = 1
      · have HE := Lib.hid hend
        rw [HE.out]
        clear hend
        go_wp2
        go_ret
        exact ⟨ret_int (by rw [HREC.out, if_pos HE.out]), HT1.out⟩
      · have HE := Lib.hid hend
        have hne : (rdSt D p' (mayAt S (a + j)) == 1) = false := by simpa using hend
        clear hend
        go_wp2
        go_roundw
        case rel => exact ⟨j + 1, _, by omega, by go_num, HX1, HD1, HS1, HV1, HT1, by
            have hh := HREC.out
            rw [if_neg HE.out] at hh
            have e1 : ((j + 1 : Nat) : Int) = (j : Int) + 1 := by omega
            show ctGo _ _ _ _ _ _ _ = R
            rw [e1]
            exact hh.symm⟩
        case measure => simp [intOf]; omega
    · go_wp2
      go_ret
      have hjm : j = m := by omega
      exact ⟨ret_int (by rw [← hR.out, hjm, Nat.sub_self, ctGo]), hT.out⟩

set_option maxHeartbeats 2000000 in
theorem CallsToEnd_any {A A' : Option Addr} {n c n' c' : Nat} {D S : List Int} {p q N : Int} {w : World} {L L' B B' : Nat} (h : Ints w L B A n D) (h' : Ints w L' B' A' n' S) (hB : B ≤ w.heap.size) (hB' : B' ≤ w.heap.size) :
    Calls Try.prog 27 #[.agg #[.slice (A) n c, .int .i64 (p), .slice (A') n' c', .int .i64 (q)], .int .i64 N] w (IntB (ctOut D p S q N) w) := by
  have HL := Lib.hid h.len
  have HL' := Lib.hid h'.len
  have H1 := Lib.hid (h.alloc hB (.cells #[.slice (A) n c, .int .i64 (p), .slice (A') n' c', .int .i64 (q)] 27))
  have H2 := Lib.hid (h'.alloc hB' (.cells #[.slice (A) n c, .int .i64 (p), .slice (A') n' c', .int .i64 (q)] 27))
  have X0 := Lib.hid (Box.new w 27 [.slice (A) n c, .int .i64 (p), .slice (A') n' c', .int .i64 (q)])
  by_cases hg : (validD D p S q && inB N 1 60) = true
  · obtain ⟨hv, hn⟩ := Bool.and_eq_true_iff.1 hg
    obtain ⟨hN1, hN2⟩ := inB_iff.1 hn
    obtain ⟨hbD, hS12, hSall, ⟨hp0, hp1⟩, hq0, hq1⟩ := validD_iff.1 hv
    have hn60 : n ≤ 60 := by rw [HL.out]; exact bytesB_le hbD
    have hn12 : n' ≤ 12 := by rw [HL'.out]; exact hS12
    obtain ⟨a, rfl⟩ := Int.eq_ofNat_of_zero_le hq0
    have HO : Hid (ctOut D p S a N = ctGo D S N (1000 - a) p a 1) := by show _ = _; rw [ctOut, if_pos hg]; simp
    have HV := Lib.hid hv
    have hcast : (1000 : Int) - (a : Int) = ((1000 - a : Nat) : Int) := by omega
    have HCA := Lib.hid hcast
    clear hg hv hbD hS12 hSall hcast
    go_enter Try.func27, Try.ntmps27
    go_wp2_with fail
    refine (ValidDevice_any H1.out H2.out (by first | omega | (simp; omega) | (simp; done)) (by first | omega | (simp; omega) | (simp; done))).mono ?_
    rintro e w1 ⟨rfl, hb1⟩
    rw [HV.out]
    (try simp only [World.size_alloc, World.size_setCell, World.size_drew] at hb1)
    have HB1 := Lib.hid hb1
    clear hb1
    have s1 := HB1.out.size
    (try simp only [World.size_alloc, World.size_setCell, World.size_drew] at s1)
    have X1 := Lib.hid (X0.out.below HB1.out (by omega))
    have I1 := Lib.hid (H1.out.below HB1.out (by omega))
    have I2 := Lib.hid (H2.out.below HB1.out (by omega))
    have x0 := (X1.out.2 0 _ rfl).1; have x1 := (X1.out.2 1 _ rfl).1; have x2 := (X1.out.2 2 _ rfl).1; have x3 := (X1.out.2 3 _ rfl).1
    go_wp2_with (first | (go_at_call 48; refine (isIn_any).mono ?_; rintro e w' ⟨rfl, rfl⟩) | fail)
    clear x0 x1 x2 x3
    refine (copyDevice_any I1.out I2.out (by omega) (by omega) (by omega) (by omega) (by unfold okInt; omega) (by unfold okInt; omega)).mono ?_
    rintro e w2 ⟨A2, n2, c2, A2', n2', c2', rfl, ⟨hc2, hc2'⟩, hb2, hd2, hd2', hap, _, _⟩
    have s2 := hb2.size
    have HD2 := Lib.hid (hd2.alloc (Nat.le_refl _) (.cells #[.slice (A2) n2 c2, .int .i64 (p), .slice (A2') n2' c2', .int .i64 ((a : Int))] 27))
    have HD2' := Lib.hid (hd2'.alloc (Nat.le_refl _) (.cells #[.slice (A2) n2 c2, .int .i64 (p), .slice (A2') n2' c2', .int .i64 ((a : Int))] 27))
    have Y2 := Lib.hid (Box.new w2 27 [.slice (A2) n2 c2, .int .i64 (p), .slice (A2') n2' c2', .int .i64 ((a : Int))])
    have X2 := Lib.hid (X1.out.below hb2 (by omega))
    have E2 := Lib.hid ((below_step hb2 (below_step HB1.out (by go_grown) (by first | omega | (simp; omega) | (simp; done)) : Below w.heap.size w w1) (by omega)).alloc (by omega) (.cells #[.slice (A2) n2 c2, .int .i64 (p), .slice (A2') n2' c2', .int .i64 ((a : Int))] 27))
    have g2 := X2.out.lt
    clear hb2 hd2 hd2' hap X1 I1 I2
    have x0 := (X2.out.2 0 _ rfl).1; have x1 := (X2.out.2 1 _ rfl).1; have x2 := (X2.out.2 2 _ rfl).1; have x3 := (X2.out.2 3 _ rfl).1
    go_wp2_with fail
    clear x0 x1 x2 x3
    rw [HCA.out]
    refine (callsToEnd_any (m := 1000 - a) Y2.out HD2.out HD2'.out (by omega) (by omega) (by first | omega | (simp; omega) | (simp; done)) (by first | omega | (simp; omega) | (simp; done)) hc2 HV.out (by omega) hN1 hN2).mono ?_
    rintro e w3 ⟨rfl, ht3⟩
    (try simp only [World.size_alloc, World.size_setCell, World.size_drew] at ht3)
    have HT3 := Lib.hid ht3
    clear ht3
    go_wp2
    go_ret
    exact ⟨ret_int HO.out.symm, E2.out.trans (HT3.out.below (by omega) (by omega))⟩
  · have HO : Hid (ctOut D p S q N = -1) := by show _ = _; rw [ctOut, if_neg hg]
    cases h1 : validD D p S q
    · have HV := Lib.hid h1
      clear h1 hg
      go_enter Try.func27, Try.ntmps27
      go_wp2_with fail
      refine (ValidDevice_any H1.out H2.out (by first | omega | (simp; omega) | (simp; done)) (by first | omega | (simp; omega) | (simp; done))).mono ?_
      rintro e w1 ⟨rfl, hb1⟩
      rw [HV.out]
      have HB1 := Lib.hid hb1
      clear hb1
      go_wp2
      go_ret
      exact ⟨ret_int HO.out.symm, below_step HB1.out (by go_grown) (by first | omega | (simp; omega) | (simp; done))⟩
    · have h2 : inB N 1 60 = false := by rw [h1] at hg; simpa using hg
      have HV := Lib.hid h1
      clear h1 hg
      go_enter Try.func27, Try.ntmps27
      go_wp2_with fail
      refine (ValidDevice_any H1.out H2.out (by first | omega | (simp; omega) | (simp; done)) (by first | omega | (simp; omega) | (simp; done))).mono ?_
      rintro e w1 ⟨rfl, hb1⟩
      rw [HV.out]
      have HB1 := Lib.hid hb1
      clear hb1
      go_wp2_with (go_at_call 48; refine (isIn_any).mono ?_; rintro e w' ⟨rfl, rfl⟩)
      go_ret
      exact ⟨ret_int HO.out.symm, below_step HB1.out (by go_grown) (by first | omega | (simp; omega) | (simp; done))⟩
end Go.Proofs.Ytbphijnhcpcclaa
