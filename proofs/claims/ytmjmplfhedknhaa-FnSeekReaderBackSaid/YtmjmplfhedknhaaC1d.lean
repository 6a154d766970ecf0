/- Contracts of impl's RestOf, and of what a call may have: mayHave, hasCalls. -/
import Derived.Test.YtmjmplfhedknhaaC1c
import Derived.Deep.RegionHeld3
import Derived.IntWalk
namespace Go.Proofs.Ytmjmplfhedknhaa
open Go.ChangeShapes Go.WideShapes Go.ChangeAt Go.RowKit
set_option linter.unusedSimpArgs false
set_option linter.unusedVariables false

/-- What is ahead of a device. -/
def restL (D : List Int) (p : Int) (S : List Int) (q : Int) : List Int := if validD D p S q then D.drop p.toNat else []

set_option maxHeartbeats 1000000 in
theorem RestOf_any {A A' : Option Addr} {n c n' c' : Nat} {D S : List Int} {p q : Int} {w : World} {L L' B B' : Nat} (h : Ints w L B A n D) (h' : Ints w L' B' A' n' S) (hB : B ≤ w.heap.size) (hB' : B' ≤ w.heap.size) (hnc : n ≤ c) :
    Calls Try.prog 48 #[.agg #[.slice (A) n c, .int .i64 (p), .slice (A') n' c', .int .i64 (q)]] w (ListPost (restL D p S q) w) := by
  have HL := Lib.hid h.len
  have H1 := Lib.hid (h.alloc hB (.cells #[.slice (A) n c, .int .i64 (p), .slice (A') n' c', .int .i64 (q)] 25))
  have H2 := Lib.hid (h'.alloc hB' (.cells #[.slice (A) n c, .int .i64 (p), .slice (A') n' c', .int .i64 (q)] 25))
  have X0 := Lib.hid (Box.new w 25 [.slice (A) n c, .int .i64 (p), .slice (A') n' c', .int .i64 (q)])
  cases hv : validD D p S q
  · have HV := Lib.hid hv
    clear hv
    go_enter Try.func48, Try.ntmps48
    go_wp2_with fail
    refine (ValidDevice_any H1.out H2.out (by first | omega | (simp; omega) | (simp; done)) (by first | omega | (simp; omega) | (simp; done))).mono ?_
    rintro e w1 ⟨rfl, hb1⟩
    rw [HV.out]
    have HB1 := Lib.hid hb1
    clear hb1
    go_wp2
    go_ret
    have e0 : restL D p S q = [] := by simp [restL, HV.out]
    rw [e0]
    exact ⟨none, 0, 0, rfl, Nat.le_refl _, below_step HB1.out (by go_grown) (by first | omega | (simp; omega) | (simp; done)), (Ints.nil _ _ _ 0 _).1⟩
  · have HV := Lib.hid hv
    obtain ⟨hbD, _, _, ⟨hp0, hp1⟩, _⟩ := validD_iff.1 hv
    have hD60 := bytesB_le hbD
    have hn60 : n ≤ 60 := by rw [HL.out]; exact hD60
    clear hv hbD hD60
    obtain ⟨a, rfl⟩ := Int.eq_ofNat_of_zero_le hp0
    have HE : Hid (restL D a S q = D.drop a) := by show _ = _; simp [restL, HV.out]
    by_cases hlt : a < n
    · have hlti : (a : Int) < (n : Int) := by omega
      go_enter Try.func48, Try.ntmps48
      go_wp2_with fail
      refine (ValidDevice_any H1.out H2.out (by first | omega | (simp; omega) | (simp; done)) (by first | omega | (simp; omega) | (simp; done))).mono ?_
      rintro e w1 ⟨rfl, hb1⟩
      rw [HV.out]
      (try simp only [World.size_alloc, World.size_setCell, World.size_drew] at hb1)
      have HB1 := Lib.hid hb1
      clear hb1
      have X1 := Lib.hid (X0.out.below HB1.out (by omega))
      have I1 := Lib.hid (H1.out.below HB1.out (by omega))
      have s1 := HB1.out.size
      (try simp only [World.size_alloc, World.size_setCell, World.size_drew] at s1)
      have x0 := (X1.out.2 0 _ rfl).1; have x1 := (X1.out.2 1 _ rfl).1; have x2 := (X1.out.2 2 _ rfl).1; have x3 := (X1.out.2 3 _ rfl).1
      go_wp2_with fail
      refine (copyList_any (I1.out.drop (by omega)) (by omega) (by omega)).mono ?_
      rintro e w2 ⟨A1, n1, c1, rfl, hcc1, hb2, hi2⟩
      have HB2 := Lib.hid hb2
      have HI2 := Lib.hid hi2
      clear hb2 hi2
      have s2 := HB2.out.size
      go_wp2
      go_ret
      rw [HE.out]
      exact ⟨_, _, _, rfl, hcc1, below_step HB2.out (below_step HB1.out (by go_grown) (by omega)) (by omega), HI2.out.more (by omega) (Nat.le_refl _)⟩
    · have hlti : (n : Int) ≤ (a : Int) := by omega
      go_enter Try.func48, Try.ntmps48
      go_wp2_with fail
      refine (ValidDevice_any H1.out H2.out (by first | omega | (simp; omega) | (simp; done)) (by first | omega | (simp; omega) | (simp; done))).mono ?_
      rintro e w1 ⟨rfl, hb1⟩
      rw [HV.out]
      (try simp only [World.size_alloc, World.size_setCell, World.size_drew] at hb1)
      have HB1 := Lib.hid hb1
      clear hb1
      have X1 := Lib.hid (X0.out.below HB1.out (by omega))
      have s1 := HB1.out.size
      (try simp only [World.size_alloc, World.size_setCell, World.size_drew] at s1)
      have x0 := (X1.out.2 0 _ rfl).1; have x1 := (X1.out.2 1 _ rfl).1; have x2 := (X1.out.2 2 _ rfl).1; have x3 := (X1.out.2 3 _ rfl).1
      go_wp2
      go_ret
      rw [HE.out, List.drop_of_length_le (by have := HL.out; omega)]
      exact ⟨none, 0, 0, rfl, Nat.le_refl _, below_step HB1.out (by go_grown) (by omega), (Ints.nil _ _ _ 0 _).1⟩

theorem Box.first4 {w : World} {b : Nat} {u0 u1 u2 u3 : Value} {more : List Value} (h : Box w b (u0 :: u1 :: u2 :: u3 :: more)) : Box w b [u0, u1, u2, u3] :=
  ⟨h.1, fun o v hv => h.2 o v (by
    have e : u0 :: u1 :: u2 :: u3 :: more = [u0, u1, u2, u3] ++ more := rfl
    rw [e, List.getElem?_append_left (List.getElem?_eq_some_iff.1 hv).1]
    exact hv)⟩
/-- What the script tells the call with number a. -/
def mayAt (S : List Int) (a : Nat) : Int := S.getD a 60
theorem mayAt_some {S : List Int} {a : Nat} {x : Int} (h : S[a]? = some x) : mayAt S a = x := by simp [mayAt, List.getD, h]
theorem mayAt_none {S : List Int} {a : Nat} (h : S.length ≤ a) : mayAt S a = 60 := by simp [mayAt, List.getD, List.getElem?_eq_none h]
theorem mayAt_in {S : List Int} (h : allB S (-1) 60 = true) (a : Nat) : -1 ≤ mayAt S a ∧ mayAt S a ≤ 60 := by
  rcases Nat.lt_or_ge a S.length with hl | hl
  · rw [mayAt_some (List.getElem?_eq_getElem hl)]
    rw [allB, List.all_eq_true] at h
    exact inB_iff.1 (h _ (List.getElem_mem hl))
  · rw [mayAt_none hl]; omega
def callSt (k : Int) : Int := if k = -1 then 3 else if k = 0 then 2 else 0
def callMay (k : Int) : Int := if k = -1 then 0 else k
def CallPost (k : Int) (w : World) (e : Ending) (w' : World) : Prop :=
  e = .returned (.tuple #[.int .i64 (callMay k), .int .i64 (callSt k)]) ∧ ∃ m, w' = w.drewN m
theorem drew_drewN (w : World) (m : Nat) : (w.drewN m).drew = w.drewN (m + 1) := rfl
theorem drewN_zero (w : World) : w.drewN 0 = w := rfl
theorem setCell_drewN (w : World) (a : Addr) (u : Value) (m : Nat) : (w.drewN m).setCell a u = (w.setCell a u).drewN m := rfl

set_option maxHeartbeats 1000000 in
theorem mayHave_any {A A' : Option Addr} {n c n' c' a b : Nat} {S : List Int} {p q : Int} {w : World} {L' B' : Nat} (hX : Box w b [.slice (A) n c, .int .i64 (p), .slice (A') n' c', .int .i64 (q)]) (h' : Ints w L' B' A' n' S) :
    Calls Try.prog 92 #[.pointer (some ⟨b, 0, none⟩), .int .i64 (a : Int)] w (CallPost (mayAt S a) w) := by
  have hm := h'.max
  have HL := Lib.hid h'.len
  have HX := Lib.hid hX
  have x0 := (HX.out.2 0 _ rfl).1; have x1 := (HX.out.2 1 _ rfl).1; have x2 := (HX.out.2 2 _ rfl).1; have x3 := (HX.out.2 3 _ rfl).1
  have f0 := (HX.out.2 0 _ rfl).2; have f1 := (HX.out.2 1 _ rfl).2; have f2 := (HX.out.2 2 _ rfl).2; have f3 := (HX.out.2 3 _ rfl).2
  by_cases hlt : a < n'
  · obtain ⟨b', o', k, rfl, _, hc, hk⟩ := h'.at_ hlt
    have hlti : (a : Int) < (n' : Int) := by omega
    have h0 : (0 : Int) ≤ (a : Int) := by omega
    have HK : Hid (mayAt S a = k) := mayAt_some hk.out
    rw [HK.out]
    go_enter Try.func92, Try.ntmps92
    go_wp2
    all_goals
      go_ret2
      refine ⟨?_, 0, rfl⟩
      simp_all [callMay, callSt]
  · have hlti : (n' : Int) ≤ (a : Int) := by omega
    have HK : Hid (mayAt S a = 60) := mayAt_none (by have := HL.out; omega)
    rw [HK.out]
    go_enter Try.func92, Try.ntmps92
    go_wp2
    all_goals
      go_ret2
      exact ⟨rfl, 0, rfl⟩
set_option maxHeartbeats 1000000 in
theorem hasCalls_any {A A' : Option Addr} {n c n' c' : Nat} {p q N : Int} {w : World} (hN : 0 ≤ N) (hN' : N ≤ 1000) :
    Calls Try.prog 69 #[.agg #[.slice (A) n c, .int .i64 (p), .slice (A') n' c', .int .i64 (q)], .int .i64 N] w (BoolB (decide (q ≤ 1000 - N)) w) := by
  have hw : IntKind.i64.wrap (1000 - N) = 1000 - N := IntWalk.i64_in _ (by omega)
  go_enter Try.func69, Try.ntmps69
  go_wp2
  go_ret
  exact ⟨rfl, by go_grown⟩
end Go.Proofs.Ytmjmplfhedknhaa
