/- Contracts of a device's 'read', of canCall and of ReadDevice. -/
import Derived.Test.YtmjmplfhedknhaaC1d
import Derived.WalkLawsBesides
namespace Go.Proofs.Ytmjmplfhedknhaa
open Go.ChangeShapes Go.WideShapes Go.ChangeAt Go.RowKit
set_option linter.unusedSimpArgs false
set_option linter.unusedVariables false

/-- What a call that reads gives, may being k. -/
def rdL (D : List Int) (p k N : Int) : List Int := if k < 1 then [] else (D.drop p.toNat).take (min N k).toNat
def rdSt (D : List Int) (p k : Int) : Int := if k < 0 then 3 else if k = 0 then 2 else if (D.length : Int) ≤ p then 1 else 0
def ReadPost (b : Nat) (A : Option Addr) (n c : Nat) (p : Int) (A' : Option Addr) (n' c' a : Nat) (D : List Int) (k N : Int) (w : World) (e : Ending) (w' : World) : Prop :=
  ∃ A1 n1 c1, e = .returned (.tuple #[.slice A1 n1 c1, .int .i64 (rdSt D p k)]) ∧ n1 ≤ c1 ∧ Turn w.heap.size b w w' ∧ Ints w' w.heap.size w'.heap.size A1 n1 (rdL D p k N) ∧
    Box w' b [.slice A n c, .int .i64 (p + ((rdL D p k N).length : Int)), .slice A' n' c', .int .i64 ((a : Int) + 1)]

set_option maxHeartbeats 2000000 in
theorem read_any {A A' : Option Addr} {n c n' c' a b : Nat} {D S : List Int} {p N : Int} {w : World} {L B L' B' : Nat} (hX : Box w b [.slice (A) n c, .int .i64 (p), .slice (A') n' c', .int .i64 ((a : Int))]) (h : Ints w L B A n D) (h' : Ints w L' B' A' n' S)
    (hb : b < L ∨ B ≤ b) (hb' : b < L' ∨ B' ≤ b) (hB : B ≤ w.heap.size) (hB' : B' ≤ w.heap.size) (hnc : n ≤ c) (hv : validD D p S a = true) (ha : a < 1000) (hN : 1 ≤ N) (hN' : N ≤ 60) :
    Calls Try.prog 85 #[.pointer (some ⟨b, 0, none⟩), .int .i64 N] w (ReadPost b A n c p A' n' c' a D (mayAt S a) N w) := by
  obtain ⟨hbD, hS12, hSall, ⟨hp0, hp1⟩, _⟩ := validD_iff.1 hv
  have hv1 : validD D p S ((a : Int) + 1) = true := validD_iff.2 ⟨hbD, hS12, hSall, ⟨hp0, hp1⟩, by omega⟩
  have hr1 := Lib.hid (show restL D p S ((a : Int) + 1) = D.drop p.toNat by simp [restL, hv1])
  have hD60 := Lib.hid (bytesB_le hbD)
  have HL := Lib.hid h.len
  have hki := mayAt_in hSall a
  have hcall := mayHave_any (a := a) hX h'
  obtain ⟨k, hk⟩ : ∃ k, mayAt S a = k := ⟨_, rfl⟩
  rw [hk] at hki hcall ⊢
  clear hk hbD hS12 hSall hv hv1
  have HC := Lib.hid hcall
  clear hcall
  have HX := Lib.hid hX
  clear hX
  by_cases k1 : k < 1
  · have hst : callSt k = rdSt D p k ∧ (callSt k != 0) = true := by
      rcases (by omega : k = -1 ∨ k = 0) with rfl | rfl <;> simp [callSt, rdSt]
    have hL : rdL D p k N = [] := by simp [rdL, k1]
    obtain ⟨hst, hne⟩ := hst
    rw [hst] at hne
    have HL0 := Lib.hid hL
    clear hL
    obtain ⟨st, hs⟩ : ∃ st, rdSt D p k = st := ⟨_, rfl⟩
    rw [hs] at hst hne
    have HS := Lib.hid hst
    have HS2 := Lib.hid hs
    clear hst hs
    go_enter Try.func85, Try.ntmps85
    have z0 := (HX.out.2 0 _ rfl).1; have z1 := (HX.out.2 1 _ rfl).1; have z2 := (HX.out.2 2 _ rfl).1; have z3 := (HX.out.2 3 _ rfl).1
    go_wp2_with fail
    refine HC.out.mono ?_
    rintro e wm ⟨rfl, m, hwm⟩
    have hs : wm.heap.size = w.heap.size := by subst hwm; exact size_drewN w m
    have XM := Lib.hid (HX.out.drewN m)
    rw [← hwm] at XM
    have TM := Lib.hid (Turn.drewN (Turn.refl w.heap.size b w) m)
    rw [← hwm] at TM
    have HD := Lib.hid (h.drewN m)
    rw [← hwm] at HD
    have HD' := Lib.hid (h'.drewN m)
    rw [← hwm] at HD'
    clear hwm z0 z1 z2 z3
    have z0 := (XM.out.2 0 _ rfl).1; have z1 := (XM.out.2 1 _ rfl).1; have z2 := (XM.out.2 2 _ rfl).1; have z3 := (XM.out.2 3 _ rfl).1
    have t0 := (XM.out.2 0 _ rfl).2; have t1 := (XM.out.2 1 _ rfl).2; have t2 := (XM.out.2 2 _ rfl).2; have t3 := (XM.out.2 3 _ rfl).2
    rw [HS.out]
    go_wp2
    go_ret2
    refine ⟨none, 0, 0, ?_, Nat.le_refl _, ?_, ?_, ?_⟩
    · rw [HS2.out]; rfl
    · exact TM.out.put _
    · rw [HL0.out]; exact (Ints.nil _ _ _ 0 _).1
    · rw [HL0.out]
      have hx := XM.out.put (i := 3) (by simp) (.int .i64 ((a : Int) + 1))
      simpa using hx
  · obtain ⟨q, rfl⟩ := Int.eq_ofNat_of_zero_le hp0
    have hst : callSt k = 0 := by simp [callSt]; omega
    have hmay : callMay k = k := by simp [callMay]; omega
    have HS := Lib.hid hst
    have HM := Lib.hid hmay
    clear hst hmay
    by_cases hlt : D.length ≤ q
    · have hL : rdL D q k N = [] := by simp [rdL, k1, List.drop_of_length_le hlt]
      have hs2 : rdSt D q k = 1 := by
        have e1 : ¬ k < 0 := by omega
        have e2 : ¬ k = 0 := by omega
        have e3 : (D.length : Int) ≤ (q : Int) := by omega
        simp [rdSt, e1, e2, e3]
      have HL0 := Lib.hid hL
      have HS2 := Lib.hid hs2
      clear hL hs2
      go_enter Try.func85, Try.ntmps85
      have z0 := (HX.out.2 0 _ rfl).1; have z1 := (HX.out.2 1 _ rfl).1; have z2 := (HX.out.2 2 _ rfl).1; have z3 := (HX.out.2 3 _ rfl).1
      go_wp2_with fail
      refine HC.out.mono ?_
      rintro e wm ⟨rfl, m, hwm⟩
      have hs : wm.heap.size = w.heap.size := by subst hwm; exact size_drewN w m
      have XM := Lib.hid (HX.out.drewN m)
      rw [← hwm] at XM
      have TM := Lib.hid (Turn.drewN (Turn.refl w.heap.size b w) m)
      rw [← hwm] at TM
      have HD := Lib.hid (h.drewN m)
      rw [← hwm] at HD
      have HD' := Lib.hid (h'.drewN m)
      rw [← hwm] at HD'
      clear hwm z0 z1 z2 z3
      have z0 := (XM.out.2 0 _ rfl).1; have z1 := (XM.out.2 1 _ rfl).1; have z2 := (XM.out.2 2 _ rfl).1; have z3 := (XM.out.2 3 _ rfl).1
      have t0 := (XM.out.2 0 _ rfl).2; have t1 := (XM.out.2 1 _ rfl).2; have t2 := (XM.out.2 2 _ rfl).2; have t3 := (XM.out.2 3 _ rfl).2
      rw [HS.out, HM.out]
      have X1 := Lib.hid (XM.out.put (i := 3) (by simp) (.int .i64 ((a : Int) + 1)))
      go_wp2_with fail
      refine (RestOf_any (HD.out.set_ (o := 3) hb (.int .i64 ((a : Int) + 1))) (HD'.out.set_ (o := 3) hb' (.int .i64 ((a : Int) + 1))) (by first | omega | (simp; omega) | (simp; done)) (by first | omega | (simp; omega) | (simp; done)) hnc).mono ?_
      rintro e w2 ⟨A1, n1, c1, rfl, hc1, hb2, hi2⟩
      rw [hr1.out] at hi2
      have hn1 : n1 = 0 := by rw [hi2.len, List.drop_of_length_le (by simpa using hlt)]; rfl
      subst hn1
      have HB2 := Lib.hid hb2
      clear hi2 hb2 z0 z1 z2 z3 t0 t1 t2 t3
      go_wp2
      go_ret2
      refine ⟨none, 0, 0, ?_, Nat.le_refl _, ?_, ?_, ?_⟩
      · rw [HS2.out]; rfl
      · exact (TM.out.put _).step HB2.out (by first | omega | (simp; omega) | (simp; done))
      · rw [HL0.out]; exact (Ints.nil _ _ _ 0 _).1
      · rw [HL0.out]
        have hx := X1.out.below HB2.out (by have := HX.out.lt; simp; omega)
        simpa using hx
    · have hq1 : (q : Int) < (D.length : Int) := by omega
      have hs2 : rdSt D q k = 0 := by
        have e1 : ¬ k < 0 := by omega
        have e2 : ¬ k = 0 := by omega
        have e3 : ¬ (D.length : Int) ≤ (q : Int) := by omega
        simp [rdSt, e1, e2, e3]
      have HS2 := Lib.hid hs2
      clear hs2
      have hd := hD60.out
      go_enter Try.func85, Try.ntmps85
      have z0 := (HX.out.2 0 _ rfl).1; have z1 := (HX.out.2 1 _ rfl).1; have z2 := (HX.out.2 2 _ rfl).1; have z3 := (HX.out.2 3 _ rfl).1
      go_wp2_with fail
      refine HC.out.mono ?_
      rintro e wm ⟨rfl, m, hwm⟩
      have hs : wm.heap.size = w.heap.size := by subst hwm; exact size_drewN w m
      have XM := Lib.hid (HX.out.drewN m)
      rw [← hwm] at XM
      have TM := Lib.hid (Turn.drewN (Turn.refl w.heap.size b w) m)
      rw [← hwm] at TM
      have HD := Lib.hid (h.drewN m)
      rw [← hwm] at HD
      have HD' := Lib.hid (h'.drewN m)
      rw [← hwm] at HD'
      clear hwm z0 z1 z2 z3
      have z0 := (XM.out.2 0 _ rfl).1; have z1 := (XM.out.2 1 _ rfl).1; have z2 := (XM.out.2 2 _ rfl).1; have z3 := (XM.out.2 3 _ rfl).1
      have t0 := (XM.out.2 0 _ rfl).2; have t1 := (XM.out.2 1 _ rfl).2; have t2 := (XM.out.2 2 _ rfl).2; have t3 := (XM.out.2 3 _ rfl).2
      rw [HS.out, HM.out]
      have X1 := Lib.hid (XM.out.put (i := 3) (by simp) (.int .i64 ((a : Int) + 1)))
      go_wp2_with fail
      refine (RestOf_any (HD.out.set_ (o := 3) hb (.int .i64 ((a : Int) + 1))) (HD'.out.set_ (o := 3) hb' (.int .i64 ((a : Int) + 1))) (by first | omega | (simp; omega) | (simp; done)) (by first | omega | (simp; omega) | (simp; done)) hnc).mono ?_
      rintro e w2 ⟨A1, n1, c1, rfl, hc1, hb2, hi2⟩
      rw [hr1.out] at hi2
      have hl1 := hi2.len
      simp only [List.length_drop, Int.toNat_natCast] at hl1
      have hn1 : 1 ≤ n1 := by omega
      have hn2 : n1 ≤ 60 := by omega
      have hz : ((n1 : Int) == 0) = false := by simp; omega
      have HL1 := Lib.hid hl1
      have HI2 := Lib.hid hi2
      have HB2 := Lib.hid hb2
      clear hi2 hb2 hl1
      have X2 := Lib.hid (X1.out.below HB2.out (by have := HX.out.lt; simp; omega))
      clear z0 z1 z2 z3 t0 t1 t2 t3
      have x0 := (X2.out.2 0 _ rfl).1; have x1 := (X2.out.2 1 _ rfl).1; have x2 := (X2.out.2 2 _ rfl).1; have x3 := (X2.out.2 3 _ rfl).1
      have f0 := (X2.out.2 0 _ rfl).2; have f1 := (X2.out.2 1 _ rfl).2; have f2 := (X2.out.2 2 _ rfl).2; have f3 := (X2.out.2 3 _ rfl).2
      have hcase : ∃ T : Nat, T ≤ n1 ∧ 1 ≤ T ∧ rdL D q k N = (D.drop q).take T ∧ ((k < N ∧ k ≤ (n1 : Int) ∧ T = k.toNat) ∨ (k < N ∧ (n1 : Int) < k ∧ T = n1) ∨ (N ≤ k ∧ N ≤ (n1 : Int) ∧ T = N.toNat) ∨ (N ≤ k ∧ (n1 : Int) < N ∧ T = n1)) := by
        have hl := HL1.out
        have k1' : ¬ k < 1 := by omega
        by_cases c1 : k < N
        · have e : min N k = k := by omega
          by_cases c2 : k ≤ (n1 : Int)
          · exact ⟨k.toNat, by omega, by omega, by rw [rdL, if_neg k1', e, Int.toNat_natCast], .inl ⟨c1, c2, rfl⟩⟩
          · refine ⟨n1, Nat.le_refl _, hn1, ?_, .inr (.inl ⟨c1, by omega, rfl⟩)⟩
            rw [rdL, if_neg k1', e, Int.toNat_natCast, List.take_of_length_le (by simp; omega), List.take_of_length_le (by simp; omega)]
        · have e : min N k = N := by omega
          by_cases c2 : N ≤ (n1 : Int)
          · exact ⟨N.toNat, by omega, by omega, by rw [rdL, if_neg k1', e, Int.toNat_natCast], .inr (.inr (.inl ⟨by omega, c2, rfl⟩))⟩
          · refine ⟨n1, Nat.le_refl _, hn1, ?_, .inr (.inr (.inr ⟨by omega, by omega, rfl⟩))⟩
            rw [rdL, if_neg k1', e, Int.toNat_natCast, List.take_of_length_le (by simp; omega), List.take_of_length_le (by simp; omega)]
      obtain ⟨T, hT1, hT2, hT, hcase⟩ := hcase
      have HT := Lib.hid hT
      clear hT
      rcases hcase with ⟨c1, c2, hTe⟩ | ⟨c1, c2, hTe⟩ | ⟨c1, c2, hTe⟩ | ⟨c1, c2, hTe⟩
      all_goals
        subst hTe
        go_wp2_with fail
        refine (copyList_any (HI2.out.take hT1) (by omega) (by omega)).mono ?_
        rintro e w3 ⟨A3, n3, c3, rfl, hc3, hb3, hi3⟩
        have hl3 := hi3.len
        have HL3 := Lib.hid hl3
        have HB3 := Lib.hid hb3
        have HI3 := Lib.hid hi3
        have hm3 : n3 ≤ 60 := by rw [hl3, List.length_take]; omega
        clear hl3 hb3 hi3
        have X3 := Lib.hid (X2.out.below HB3.out X2.out.lt)
        clear x0 x1 x2 x3 f0 f1 f2 f3
        have x0 := (X3.out.2 0 _ rfl).1; have x1 := (X3.out.2 1 _ rfl).1; have x2 := (X3.out.2 2 _ rfl).1; have x3 := (X3.out.2 3 _ rfl).1
        have f0 := (X3.out.2 0 _ rfl).2; have f1 := (X3.out.2 1 _ rfl).2; have f2 := (X3.out.2 2 _ rfl).2; have f3 := (X3.out.2 3 _ rfl).2
        go_wp2
        go_ret2
        have hlen : ((rdL D q k N).length : Int) = (n3 : Int) := by rw [HT.out]; have := HL3.out; simp only [Int.toNat_natCast] at this; omega
        have s2 := HB2.out.size
        simp only [World.size_setCell] at s2
        have hbw := HX.out.lt
        refine ⟨A3, n3, c3, ?_, hc3, ?_, ?_, ?_⟩
        · rw [HS2.out]; rfl
        · exact (((TM.out.put _).step HB2.out (by first | omega | (simp; omega) | (simp; done))).step HB3.out (by omega)).put _
        · rw [HT.out]
          simp only [World.size_setCell]
          refine Ints.more (lo := w2.heap.size) (hi := w3.heap.size) ?_ (by omega) (by omega)
          (repeat (with_reducible refine Ints.set_ ?_ (by omega) _))
          exact HI3.out
        · rw [hlen]
          have hx := X3.out.put (i := 1) (by simp) (.int .i64 ((q : Int) + (n3 : Int)))
          simpa using hx
end Go.Proofs.Ytmjmplfhedknhaa
