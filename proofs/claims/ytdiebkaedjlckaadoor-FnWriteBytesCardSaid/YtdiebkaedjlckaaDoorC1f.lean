/- Contracts of IsSmooth, impl's and the model's. -/
import Derived.Test.YtdiebkaedjlckaaDoorC1b
import Derived.Deep.RegionHeld3
import Derived.IntWalk
import Derived.WalkLawsBesides
namespace Go.Proofs.YtdiebkaedjlckaaDoor
section
open Go.ChangeShapes Go.WideShapes Go.ChangeAt Go.RowKit
set_option linter.unusedSimpArgs false
set_option linter.unusedVariables false

/-- No number from index a on is less than 1. -/
def smoothB (S : List Int) (a : Nat) : Bool := (S.drop a).all fun x => decide (1 ≤ x)
theorem smoothB_iff {S : List Int} {a : Nat} : smoothB S a = true ↔ ∀ j x, a ≤ j → S[j]? = some x → 1 ≤ x := by
  unfold smoothB
  rw [List.all_eq_true]
  constructor
  · intro h j x hj hx
    have : x ∈ S.drop a := by
      refine List.mem_of_getElem? (i := j - a) ?_
      rw [List.getElem?_drop, show a + (j - a) = j from by omega]
      exact hx
    simpa using h x this
  · intro h x hx
    obtain ⟨i, hi⟩ := List.mem_iff_getElem?.1 hx
    rw [List.getElem?_drop] at hi
    simpa using h (a + i) x (by omega) hi
theorem smoothB_no {S : List Int} {a j : Nat} {x : Int} (hj : a ≤ j) (hx : S[j]? = some x) (h : x < 1) : smoothB S a = false := by
  cases e : smoothB S a with
  | false => rfl
  | true => have := smoothB_iff.1 e j x hj hx; omega
/-- What a valid device's numbers are. -/
theorem validD_iff {D S : List Int} {p q : Int} : validD D p S q = true ↔ bytesB D = true ∧ S.length ≤ 12 ∧ allB S (-1) 60 = true ∧ (0 ≤ p ∧ p ≤ 60) ∧ (0 ≤ q ∧ q ≤ 1000) := by
  simp [validD, inB, and_assoc]
def SmoothTo (S : List Int) (a k : Nat) : Prop := ∀ j x, a ≤ j → j < k → S[j]? = some x → 1 ≤ x
theorem SmoothTo.succ {S : List Int} {a k : Nat} {x : Int} (h : SmoothTo S a k) (hx : S[k]? = some x) (h1 : 1 ≤ x) : SmoothTo S a (k + 1) := by
  intro j y ha hj hy
  by_cases e : j = k
  · subst e; rw [hx] at hy; injection hy with hy; omega
  · exact h j y ha (by omega) hy

end
section
open Go.ChangeShapes Go.WideShapes Go.ChangeAt Go.RowKit
set_option linter.unusedSimpArgs false
set_option linter.unusedVariables false

/-- What is ahead of a device. -/
def restL (D : List Int) (p : Int) (S : List Int) (q : Int) : List Int := if validD D p S q then D.drop p.toNat else []

set_option maxHeartbeats 1000000 in
theorem RestOf_any {A A' : Option Addr} {n c n' c' : Nat} {D S : List Int} {p q : Int} {w : World} {L L' B B' : Nat} (h : Ints w L B A n D) (h' : Ints w L' B' A' n' S) (hB : B ≤ w.heap.size) (hB' : B' ≤ w.heap.size) (hnc : n ≤ c) :
    Calls Tryd.prog 147 #[.agg #[.slice (A) n c, .int .i64 (p), .slice (A') n' c', .int .i64 (q)]] w (ListPost (restL D p S q) w) := by
  have HL := Lib.hid h.len
  have H1 := Lib.hid (h.alloc hB (.cells #[.slice (A) n c, .int .i64 (p), .slice (A') n' c', .int .i64 (q)] 28))
  have H2 := Lib.hid (h'.alloc hB' (.cells #[.slice (A) n c, .int .i64 (p), .slice (A') n' c', .int .i64 (q)] 28))
  have X0 := Lib.hid (Box.new w 28 [.slice (A) n c, .int .i64 (p), .slice (A') n' c', .int .i64 (q)])
  cases hv : validD D p S q
  · have HV := Lib.hid hv
    clear hv
    go_enter Tryd.func147, Tryd.ntmps147
    go_wp2_with fail
    refine (ValidDevice_any H1.out H2.out (by first | omega | (simp; omega) | (simp; done)) (by first | omega | (simp; omega) | (simp; done))).mono ?_
    rintro e w1 ⟨rfl, hb1⟩
    rw [HV.out]
    have HB1 := Lib.hid hb1
    clear hb1
    go_wp2
    go_ret
    have e0 : restL D p S q = [] := by simp [restL, HV.out]
    rw [e0]
    exact ⟨none, 0, 0, rfl, Nat.le_refl _, below_step HB1.out (by go_grown) (by first | omega | (simp; omega) | (simp; done)), (Ints.nil _ _ _ 0 _).1⟩
  · have HV := Lib.hid hv
    obtain ⟨hbD, _, _, ⟨hp0, hp1⟩, _⟩ := validD_iff.1 hv
    have hD60 := bytesB_le hbD
    have hn60 : n ≤ 60 := by rw [HL.out]; exact hD60
    clear hv hbD hD60
    obtain ⟨a, rfl⟩ := Int.eq_ofNat_of_zero_le hp0
    have HE : Hid (restL D a S q = D.drop a) := by show _ = _; simp [restL, HV.out]
    by_cases hlt : a < n
    · have hlti : (a : Int) < (n : Int) := by omega
      go_enter Tryd.func147, Tryd.ntmps147
      go_wp2_with fail
      refine (ValidDevice_any H1.out H2.out (by first | omega | (simp; omega) | (simp; done)) (by first | omega | (simp; omega) | (simp; done))).mono ?_
      rintro e w1 ⟨rfl, hb1⟩
      rw [HV.out]
      (try simp only [World.size_alloc, World.size_setCell, World.size_drew] at hb1)
      have HB1 := Lib.hid hb1
      clear hb1
      have X1 := Lib.hid (X0.out.below HB1.out (by omega))
      have I1 := Lib.hid (H1.out.below HB1.out (by omega))
      have s1 := HB1.out.size
      (try simp only [World.size_alloc, World.size_setCell, World.size_drew] at s1)
      have x0 := (X1.out.2 0 _ rfl).1; have x1 := (X1.out.2 1 _ rfl).1; have x2 := (X1.out.2 2 _ rfl).1; have x3 := (X1.out.2 3 _ rfl).1
      go_wp2_with fail
      refine (copyList_any (I1.out.drop (by omega)) (by omega) (by omega)).mono ?_
      rintro e w2 ⟨A1, n1, c1, rfl, hcc1, hb2, hi2⟩
      have HB2 := Lib.hid hb2
      have HI2 := Lib.hid hi2
      clear hb2 hi2
      have s2 := HB2.out.size
      go_wp2
      go_ret
      rw [HE.out]
      exact ⟨_, _, _, rfl, hcc1, below_step HB2.out (below_step HB1.out (by go_grown) (by omega)) (by omega), HI2.out.more (by omega) (Nat.le_refl _)⟩
    · have hlti : (n : Int) ≤ (a : Int) := by omega
      go_enter Tryd.func147, Tryd.ntmps147
      go_wp2_with fail
      refine (ValidDevice_any H1.out H2.out (by first | omega | (simp; omega) | (simp; done)) (by first | omega | (simp; omega) | (simp; done))).mono ?_
      rintro e w1 ⟨rfl, hb1⟩
      rw [HV.out]
      (try simp only [World.size_alloc, World.size_setCell, World.size_drew] at hb1)
      have HB1 := Lib.hid hb1
      clear hb1
      have X1 := Lib.hid (X0.out.below HB1.out (by omega))
      have s1 := HB1.out.size
      (try simp only [World.size_alloc, World.size_setCell, World.size_drew] at s1)
      have x0 := (X1.out.2 0 _ rfl).1; have x1 := (X1.out.2 1 _ rfl).1; have x2 := (X1.out.2 2 _ rfl).1; have x3 := (X1.out.2 3 _ rfl).1
      go_wp2
      go_ret
      rw [HE.out, List.drop_of_length_le (by have := HL.out; omega)]
      exact ⟨none, 0, 0, rfl, Nat.le_refl _, below_step HB1.out (by go_grown) (by omega), (Ints.nil _ _ _ 0 _).1⟩

theorem Box.first4 {w : World} {b : Nat} {u0 u1 u2 u3 : Value} {more : List Value} (h : Box w b (u0 :: u1 :: u2 :: u3 :: more)) : Box w b [u0, u1, u2, u3] :=
  ⟨h.1, fun o v hv => h.2 o v (by
    have e : u0 :: u1 :: u2 :: u3 :: more = [u0, u1, u2, u3] ++ more := rfl
    rw [e, List.getElem?_append_left (List.getElem?_eq_some_iff.1 hv).1]
    exact hv)⟩
/-- What the script tells the call with number a. -/
def mayAt (S : List Int) (a : Nat) : Int := S.getD a 60
theorem mayAt_some {S : List Int} {a : Nat} {x : Int} (h : S[a]? = some x) : mayAt S a = x := by simp [mayAt, List.getD, h]
theorem mayAt_none {S : List Int} {a : Nat} (h : S.length ≤ a) : mayAt S a = 60 := by simp [mayAt, List.getD, List.getElem?_eq_none h]
theorem mayAt_in {S : List Int} (h : allB S (-1) 60 = true) (a : Nat) : -1 ≤ mayAt S a ∧ mayAt S a ≤ 60 := by
  rcases Nat.lt_or_ge a S.length with hl | hl
  · rw [mayAt_some (List.getElem?_eq_getElem hl)]
    rw [allB, List.all_eq_true] at h
    exact inB_iff.1 (h _ (List.getElem_mem hl))
  · rw [mayAt_none hl]; omega
def callSt (k : Int) : Int := if k = -1 then 3 else if k = 0 then 2 else 0
def callMay (k : Int) : Int := if k = -1 then 0 else k
def CallPost (k : Int) (w : World) (e : Ending) (w' : World) : Prop :=
  e = .returned (.tuple #[.int .i64 (callMay k), .int .i64 (callSt k)]) ∧ ∃ m, w' = w.drewN m
theorem drew_drewN (w : World) (m : Nat) : (w.drewN m).drew = w.drewN (m + 1) := rfl
theorem drewN_zero (w : World) : w.drewN 0 = w := rfl
theorem setCell_drewN (w : World) (a : Addr) (u : Value) (m : Nat) : (w.drewN m).setCell a u = (w.setCell a u).drewN m := rfl

set_option maxHeartbeats 1000000 in
theorem mayHave_any {A A' : Option Addr} {n c n' c' a b : Nat} {S : List Int} {p q : Int} {w : World} {L' B' : Nat} (hX : Box w b [.slice (A) n c, .int .i64 (p), .slice (A') n' c', .int .i64 (q)]) (h' : Ints w L' B' A' n' S) :
    Calls Tryd.prog 141 #[.pointer (some ⟨b, 0, none⟩), .int .i64 (a : Int)] w (CallPost (mayAt S a) w) := by
  have hm := h'.max
  have HL := Lib.hid h'.len
  have HX := Lib.hid hX
  have x0 := (HX.out.2 0 _ rfl).1; have x1 := (HX.out.2 1 _ rfl).1; have x2 := (HX.out.2 2 _ rfl).1; have x3 := (HX.out.2 3 _ rfl).1
  have f0 := (HX.out.2 0 _ rfl).2; have f1 := (HX.out.2 1 _ rfl).2; have f2 := (HX.out.2 2 _ rfl).2; have f3 := (HX.out.2 3 _ rfl).2
  by_cases hlt : a < n'
  · obtain ⟨b', o', k, rfl, _, hc, hk⟩ := h'.at_ hlt
    have hlti : (a : Int) < (n' : Int) := by omega
    have h0 : (0 : Int) ≤ (a : Int) := by omega
    have HK : Hid (mayAt S a = k) := mayAt_some hk.out
    rw [HK.out]
    go_enter Tryd.func141, Tryd.ntmps141
    go_wp2
    all_goals
      go_ret2
      refine ⟨?_, 0, rfl⟩
      simp_all [callMay, callSt]
  · have hlti : (n' : Int) ≤ (a : Int) := by omega
    have HK : Hid (mayAt S a = 60) := mayAt_none (by have := HL.out; omega)
    rw [HK.out]
    go_enter Tryd.func141, Tryd.ntmps141
    go_wp2
    all_goals
      go_ret2
      exact ⟨rfl, 0, rfl⟩
set_option maxHeartbeats 1000000 in
theorem hasCalls_any {A A' : Option Addr} {n c n' c' : Nat} {p q N : Int} {w : World} (hN : 0 ≤ N) (hN' : N ≤ 1000) :
    Calls Tryd.prog 98 #[.agg #[.slice (A) n c, .int .i64 (p), .slice (A') n' c', .int .i64 (q)], .int .i64 N] w (BoolB (decide (q ≤ 1000 - N)) w) := by
  have hw : IntKind.i64.wrap (1000 - N) = 1000 - N := IntWalk.i64_in _ (by omega)
  go_enter Tryd.func98, Tryd.ntmps98
  go_wp2
  go_ret
  exact ⟨rfl, by go_grown⟩
end
section
open Go.ChangeShapes Go.WideShapes Go.ChangeAt Go.RowKit
set_option linter.unusedSimpArgs false
set_option linter.unusedVariables false

/-- What a call that reads gives, may being k. -/
def rdL (D : List Int) (p k N : Int) : List Int := if k < 1 then [] else (D.drop p.toNat).take (min N k).toNat
def rdSt (D : List Int) (p k : Int) : Int := if k < 0 then 3 else if k = 0 then 2 else if (D.length : Int) ≤ p then 1 else 0
def ReadPost (b : Nat) (A : Option Addr) (n c : Nat) (p : Int) (A' : Option Addr) (n' c' a : Nat) (D : List Int) (k N : Int) (w : World) (e : Ending) (w' : World) : Prop :=
  ∃ A1 n1 c1, e = .returned (.tuple #[.slice A1 n1 c1, .int .i64 (rdSt D p k)]) ∧ n1 ≤ c1 ∧ Turn w.heap.size b w w' ∧ Ints w' w.heap.size w'.heap.size A1 n1 (rdL D p k N) ∧
    Box w' b [.slice A n c, .int .i64 (p + ((rdL D p k N).length : Int)), .slice A' n' c', .int .i64 ((a : Int) + 1)]

set_option maxHeartbeats 2000000 in
theorem read_any {A A' : Option Addr} {n c n' c' a b : Nat} {D S : List Int} {p N : Int} {w : World} {L B L' B' : Nat} (hX : Box w b [.slice (A) n c, .int .i64 (p), .slice (A') n' c', .int .i64 ((a : Int))]) (h : Ints w L B A n D) (h' : Ints w L' B' A' n' S)
    (hb : b < L ∨ B ≤ b) (hb' : b < L' ∨ B' ≤ b) (hB : B ≤ w.heap.size) (hB' : B' ≤ w.heap.size) (hnc : n ≤ c) (hv : validD D p S a = true) (ha : a < 1000) (hN : 1 ≤ N) (hN' : N ≤ 60) :
    Calls Tryd.prog 146 #[.pointer (some ⟨b, 0, none⟩), .int .i64 N] w (ReadPost b A n c p A' n' c' a D (mayAt S a) N w) := by
  obtain ⟨hbD, hS12, hSall, ⟨hp0, hp1⟩, _⟩ := validD_iff.1 hv
  have hv1 : validD D p S ((a : Int) + 1) = true := validD_iff.2 ⟨hbD, hS12, hSall, ⟨hp0, hp1⟩, by omega⟩
  have hr1 := Lib.hid (show restL D p S ((a : Int) + 1) = D.drop p.toNat by simp [restL, hv1])
  have hD60 := Lib.hid (bytesB_le hbD)
  have HL := Lib.hid h.len
  have hki := mayAt_in hSall a
  have hcall := mayHave_any (a := a) hX h'
  obtain ⟨k, hk⟩ : ∃ k, mayAt S a = k := ⟨_, rfl⟩
  rw [hk] at hki hcall ⊢
  clear hk hbD hS12 hSall hv hv1
  have HC := Lib.hid hcall
  clear hcall
  have HX := Lib.hid hX
  clear hX
  by_cases k1 : k < 1
  · have hst : callSt k = rdSt D p k ∧ (callSt k != 0) = true := by
      rcases (by omega : k = -1 ∨ k = 0) with rfl | rfl <;> simp [callSt, rdSt]
    have hL : rdL D p k N = [] := by simp [rdL, k1]
    obtain ⟨hst, hne⟩ := hst
    rw [hst] at hne
    have HL0 := Lib.hid hL
    clear hL
    obtain ⟨st, hs⟩ : ∃ st, rdSt D p k = st := ⟨_, rfl⟩
    rw [hs] at hst hne
    have HS := Lib.hid hst
    have HS2 := Lib.hid hs
    clear hst hs
    go_enter Tryd.func146, Tryd.ntmps146
    have z0 := (HX.out.2 0 _ rfl).1; have z1 := (HX.out.2 1 _ rfl).1; have z2 := (HX.out.2 2 _ rfl).1; have z3 := (HX.out.2 3 _ rfl).1
    go_wp2_with fail
    refine HC.out.mono ?_
    rintro e wm ⟨rfl, m, hwm⟩
    have hs : wm.heap.size = w.heap.size := by subst hwm; exact size_drewN w m
    have XM := Lib.hid (HX.out.drewN m)
    rw [← hwm] at XM
    have TM := Lib.hid (Turn.drewN (Turn.refl w.heap.size b w) m)
    rw [← hwm] at TM
    have HD := Lib.hid (h.drewN m)
    rw [← hwm] at HD
    have HD' := Lib.hid (h'.drewN m)
    rw [← hwm] at HD'
    clear hwm z0 z1 z2 z3
    have z0 := (XM.out.2 0 _ rfl).1; have z1 := (XM.out.2 1 _ rfl).1; have z2 := (XM.out.2 2 _ rfl).1; have z3 := (XM.out.2 3 _ rfl).1
    have t0 := (XM.out.2 0 _ rfl).2; have t1 := (XM.out.2 1 _ rfl).2; have t2 := (XM.out.2 2 _ rfl).2; have t3 := (XM.out.2 3 _ rfl).2
    rw [HS.out]
    go_wp2
    go_ret2
    refine ⟨none, 0, 0, ?_, Nat.le_refl _, ?_, ?_, ?_⟩
    · rw [HS2.out]; rfl
    · exact TM.out.put _
    · rw [HL0.out]; exact (Ints.nil _ _ _ 0 _).1
    · rw [HL0.out]
      have hx := XM.out.put (i := 3) (by simp) (.int .i64 ((a : Int) + 1))
      simpa using hx
  · obtain ⟨q, rfl⟩ := Int.eq_ofNat_of_zero_le hp0
    have hst : callSt k = 0 := by simp [callSt]; omega
    have hmay : callMay k = k := by simp [callMay]; omega
    have HS := Lib.hid hst
    have HM := Lib.hid hmay
    clear hst hmay
    by_cases hlt : D.length ≤ q
    · have hL : rdL D q k N = [] := by simp [rdL, k1, List.drop_of_length_le hlt]
      have hs2 : rdSt D q k = 1 := by
        have e1 : ¬ k < 0 := by omega
        have e2 : ¬ k = 0 := by omega
        have e3 : (D.length : Int) ≤ (q : Int) := by omega
        simp [rdSt, e1, e2, e3]
      have HL0 := Lib.hid hL
      have HS2 := Lib.hid hs2
      clear hL hs2
      go_enter Tryd.func146, Tryd.ntmps146
      have z0 := (HX.out.2 0 _ rfl).1; have z1 := (HX.out.2 1 _ rfl).1; have z2 := (HX.out.2 2 _ rfl).1; have z3 := (HX.out.2 3 _ rfl).1
      go_wp2_with fail
      refine HC.out.mono ?_
      rintro e wm ⟨rfl, m, hwm⟩
      have hs : wm.heap.size = w.heap.size := by subst hwm; exact size_drewN w m
      have XM := Lib.hid (HX.out.drewN m)
      rw [← hwm] at XM
      have TM := Lib.hid (Turn.drewN (Turn.refl w.heap.size b w) m)
      rw [← hwm] at TM
      have HD := Lib.hid (h.drewN m)
      rw [← hwm] at HD
      have HD' := Lib.hid (h'.drewN m)
      rw [← hwm] at HD'
      clear hwm z0 z1 z2 z3
      have z0 := (XM.out.2 0 _ rfl).1; have z1 := (XM.out.2 1 _ rfl).1; have z2 := (XM.out.2 2 _ rfl).1; have z3 := (XM.out.2 3 _ rfl).1
      have t0 := (XM.out.2 0 _ rfl).2; have t1 := (XM.out.2 1 _ rfl).2; have t2 := (XM.out.2 2 _ rfl).2; have t3 := (XM.out.2 3 _ rfl).2
      rw [HS.out, HM.out]
      have X1 := Lib.hid (XM.out.put (i := 3) (by simp) (.int .i64 ((a : Int) + 1)))
      go_wp2_with fail
      refine (RestOf_any (HD.out.set_ (o := 3) hb (.int .i64 ((a : Int) + 1))) (HD'.out.set_ (o := 3) hb' (.int .i64 ((a : Int) + 1))) (by first | omega | (simp; omega) | (simp; done)) (by first | omega | (simp; omega) | (simp; done)) hnc).mono ?_
      rintro e w2 ⟨A1, n1, c1, rfl, hc1, hb2, hi2⟩
      rw [hr1.out] at hi2
      have hn1 : n1 = 0 := by rw [hi2.len, List.drop_of_length_le (by simpa using hlt)]; rfl
      subst hn1
      have HB2 := Lib.hid hb2
      clear hi2 hb2 z0 z1 z2 z3 t0 t1 t2 t3
      go_wp2
      go_ret2
      refine ⟨none, 0, 0, ?_, Nat.le_refl _, ?_, ?_, ?_⟩
      · rw [HS2.out]; rfl
      · exact (TM.out.put _).step HB2.out (by first | omega | (simp; omega) | (simp; done))
      · rw [HL0.out]; exact (Ints.nil _ _ _ 0 _).1
      · rw [HL0.out]
        have hx := X1.out.below HB2.out (by have := HX.out.lt; simp; omega)
        simpa using hx
    · have hq1 : (q : Int) < (D.length : Int) := by omega
      have hs2 : rdSt D q k = 0 := by
        have e1 : ¬ k < 0 := by omega
        have e2 : ¬ k = 0 := by omega
        have e3 : ¬ (D.length : Int) ≤ (q : Int) := by omega
        simp [rdSt, e1, e2, e3]
      have HS2 := Lib.hid hs2
      clear hs2
      have hd := hD60.out
      go_enter Tryd.func146, Tryd.ntmps146
      have z0 := (HX.out.2 0 _ rfl).1; have z1 := (HX.out.2 1 _ rfl).1; have z2 := (HX.out.2 2 _ rfl).1; have z3 := (HX.out.2 3 _ rfl).1
      go_wp2_with fail
      refine HC.out.mono ?_
      rintro e wm ⟨rfl, m, hwm⟩
      have hs : wm.heap.size = w.heap.size := by subst hwm; exact size_drewN w m
      have XM := Lib.hid (HX.out.drewN m)
      rw [← hwm] at XM
      have TM := Lib.hid (Turn.drewN (Turn.refl w.heap.size b w) m)
      rw [← hwm] at TM
      have HD := Lib.hid (h.drewN m)
      rw [← hwm] at HD
      have HD' := Lib.hid (h'.drewN m)
      rw [← hwm] at HD'
      clear hwm z0 z1 z2 z3
      have z0 := (XM.out.2 0 _ rfl).1; have z1 := (XM.out.2 1 _ rfl).1; have z2 := (XM.out.2 2 _ rfl).1; have z3 := (XM.out.2 3 _ rfl).1
      have t0 := (XM.out.2 0 _ rfl).2; have t1 := (XM.out.2 1 _ rfl).2; have t2 := (XM.out.2 2 _ rfl).2; have t3 := (XM.out.2 3 _ rfl).2
      rw [HS.out, HM.out]
      have X1 := Lib.hid (XM.out.put (i := 3) (by simp) (.int .i64 ((a : Int) + 1)))
      go_wp2_with fail
      refine (RestOf_any (HD.out.set_ (o := 3) hb (.int .i64 ((a : Int) + 1))) (HD'.out.set_ (o := 3) hb' (.int .i64 ((a : Int) + 1))) (by first | omega | (simp; omega) | (simp; done)) (by first | omega | (simp; omega) | (simp; done)) hnc).mono ?_
      rintro e w2 ⟨A1, n1, c1, rfl, hc1, hb2, hi2⟩
      rw [hr1.out] at hi2
      have hl1 := hi2.len
      simp only [List.length_drop, Int.toNat_natCast] at hl1
      have hn1 : 1 ≤ n1 := by omega
      have hn2 : n1 ≤ 60 := by omega
      have hz : ((n1 : Int) == 0) = false := by simp; omega
      have HL1 := Lib.hid hl1
      have HI2 := Lib.hid hi2
      have HB2 := Lib.hid hb2
      clear hi2 hb2 hl1
      have X2 := Lib.hid (X1.out.below HB2.out (by have := HX.out.lt; simp; omega))
      clear z0 z1 z2 z3 t0 t1 t2 t3
      have x0 := (X2.out.2 0 _ rfl).1; have x1 := (X2.out.2 1 _ rfl).1; have x2 := (X2.out.2 2 _ rfl).1; have x3 := (X2.out.2 3 _ rfl).1
      have f0 := (X2.out.2 0 _ rfl).2; have f1 := (X2.out.2 1 _ rfl).2; have f2 := (X2.out.2 2 _ rfl).2; have f3 := (X2.out.2 3 _ rfl).2
      have hcase : ∃ T : Nat, T ≤ n1 ∧ 1 ≤ T ∧ rdL D q k N = (D.drop q).take T ∧ ((k < N ∧ k ≤ (n1 : Int) ∧ T = k.toNat) ∨ (k < N ∧ (n1 : Int) < k ∧ T = n1) ∨ (N ≤ k ∧ N ≤ (n1 : Int) ∧ T = N.toNat) ∨ (N ≤ k ∧ (n1 : Int) < N ∧ T = n1)) := by
        have hl := HL1.out
        have k1' : ¬ k < 1 := by omega
        by_cases c1 : k < N
        · have e : min N k = k := by omega
          by_cases c2 : k ≤ (n1 : Int)
          · exact ⟨k.toNat, by omega, by omega, by rw [rdL, if_neg k1', e, Int.toNat_natCast], .inl ⟨c1, c2, rfl⟩⟩
          · refine ⟨n1, Nat.le_refl _, hn1, ?_, .inr (.inl ⟨c1, by omega, rfl⟩)⟩
            rw [rdL, if_neg k1', e, Int.toNat_natCast, List.take_of_length_le (by simp; omega), List.take_of_length_le (by simp; omega)]
        · have e : min N k = N := by omega
          by_cases c2 : N ≤ (n1 : Int)
          · exact ⟨N.toNat, by omega, by omega, by rw [rdL, if_neg k1', e, Int.toNat_natCast], .inr (.inr (.inl ⟨by omega, c2, rfl⟩))⟩
          · refine ⟨n1, Nat.le_refl _, hn1, ?_, .inr (.inr (.inr ⟨by omega, by omega, rfl⟩))⟩
            rw [rdL, if_neg k1', e, Int.toNat_natCast, List.take_of_length_le (by simp; omega), List.take_of_length_le (by simp; omega)]
      obtain ⟨T, hT1, hT2, hT, hcase⟩ := hcase
      have HT := Lib.hid hT
      clear hT
      rcases hcase with ⟨c1, c2, hTe⟩ | ⟨c1, c2, hTe⟩ | ⟨c1, c2, hTe⟩ | ⟨c1, c2, hTe⟩
      all_goals
        subst hTe
        go_wp2_with fail
        refine (copyList_any (HI2.out.take hT1) (by omega) (by omega)).mono ?_
        rintro e w3 ⟨A3, n3, c3, rfl, hc3, hb3, hi3⟩
        have hl3 := hi3.len
        have HL3 := Lib.hid hl3
        have HB3 := Lib.hid hb3
        have HI3 := Lib.hid hi3
        have hm3 : n3 ≤ 60 := by rw [hl3, List.length_take]; omega
        clear hl3 hb3 hi3
        have X3 := Lib.hid (X2.out.below HB3.out X2.out.lt)
        clear x0 x1 x2 x3 f0 f1 f2 f3
        have x0 := (X3.out.2 0 _ rfl).1; have x1 := (X3.out.2 1 _ rfl).1; have x2 := (X3.out.2 2 _ rfl).1; have x3 := (X3.out.2 3 _ rfl).1
        have f0 := (X3.out.2 0 _ rfl).2; have f1 := (X3.out.2 1 _ rfl).2; have f2 := (X3.out.2 2 _ rfl).2; have f3 := (X3.out.2 3 _ rfl).2
        go_wp2
        go_ret2
        have hlen : ((rdL D q k N).length : Int) = (n3 : Int) := by rw [HT.out]; have := HL3.out; simp only [Int.toNat_natCast] at this; omega
        have s2 := HB2.out.size
        simp only [World.size_setCell] at s2
        have hbw := HX.out.lt
        refine ⟨A3, n3, c3, ?_, hc3, ?_, ?_, ?_⟩
        · rw [HS2.out]; rfl
        · exact (((TM.out.put _).step HB2.out (by first | omega | (simp; omega) | (simp; done))).step HB3.out (by omega)).put _
        · rw [HT.out]
          simp only [World.size_setCell]
          refine Ints.more (lo := w2.heap.size) (hi := w3.heap.size) ?_ (by omega) (by omega)
          (repeat (with_reducible refine Ints.set_ ?_ (by omega) _))
          exact HI3.out
        · rw [hlen]
          have hx := X3.out.put (i := 1) (by simp) (.int .i64 ((q : Int) + (n3 : Int)))
          simpa using hx
end
section
open Go.ChangeShapes Go.WideShapes Go.ChangeAt Go.RowKit
set_option linter.unusedSimpArgs false
set_option linter.unusedVariables false

/-- A device's numbers, as one. -/
structure Dv where
  d : List Int
  p : Int
  s : List Int
  q : Int
def Dv.zero : Dv := ⟨[], 0, [], 0⟩
def goodCall (D : List Int) (p : Int) (S : List Int) (q : Int) : Bool := validD D p S q && decide (q < 1000)
def rdGood (D : List Int) (p : Int) (S : List Int) (q N : Int) : Bool := goodCall D p S q && inB N 1 60
/-- What ReadDevice gives. -/
def rdOut (D : List Int) (p : Int) (S : List Int) (q N : Int) : Dv × List Int × Int :=
  if rdGood D p S q N then (⟨D, p + ((rdL D p (mayAt S q.toNat) N).length : Int), S, q + 1⟩, rdL D p (mayAt S q.toNat) N, rdSt D p (mayAt S q.toNat)) else (.zero, [], 5)
theorem rdL_len (D : List Int) (p k N : Int) : (rdL D p k N).length ≤ D.length := by
  unfold rdL
  split
  · simp
  · rw [List.length_take, List.length_drop]; omega
theorem rdGood_iff {D S : List Int} {p q N : Int} : rdGood D p S q N = true ↔ validD D p S q = true ∧ q < 1000 ∧ 1 ≤ N ∧ N ≤ 60 := by simp [rdGood, goodCall, inB, and_assoc]

/-- A device, ints and an int, in new memory, all apart. -/
def Post3 (o : Dv × List Int × Int) (w : World) (e : Ending) (w' : World) : Prop :=
  ∃ A n c A' n' c' A1 n1 c1, e = .returned (.tuple #[.agg #[.slice (A) n c, .int .i64 (o.1.p), .slice (A') n' c', .int .i64 (o.1.q)], .slice A1 n1 c1, .int .i64 o.2.2]) ∧ (n ≤ c ∧ n' ≤ c' ∧ n1 ≤ c1) ∧ Below w.heap.size w w' ∧
    DevIn w' w.heap.size w'.heap.size A n A' n' o.1.d o.1.p o.1.s o.1.q ∧ Ints w' w.heap.size w'.heap.size A1 n1 o.2.1 ∧ Apart A1 n1 A n ∧ Apart A1 n1 A' n' ∧ okInt o.2.2

theorem DevIn.zero (w : World) (lo hi : Nat) : DevIn w lo hi none 0 none 0 [] 0 [] 0 :=
  ⟨(Ints.nil _ _ _ 0 _).1, (Ints.nil _ _ _ 0 _).1, fun h => absurd h (by omega), by unfold okInt; omega, by unfold okInt; omega⟩
theorem Post3.zero {w w' : World} (hb : Below w.heap.size w w') : Post3 (Dv.zero, [], 5) w (.returned (.tuple #[.agg #[.slice none 0 0, .int .i64 0, .slice none 0 0, .int .i64 0], .slice none 0 0, .int .i64 5])) w' :=
  ⟨none, 0, 0, none, 0, 0, none, 0, 0, rfl, ⟨Nat.le_refl _, Nat.le_refl _, Nat.le_refl _⟩, hb, DevIn.zero _ _ _, (Ints.nil _ _ _ 0 _).1, fun h => absurd h (by omega), fun h => absurd h (by omega), by unfold okInt; show _ ≤ (5 : Int) ∧ (5 : Int) ≤ _; omega⟩


end
end Go.Proofs.YtdiebkaedjlckaaDoor
