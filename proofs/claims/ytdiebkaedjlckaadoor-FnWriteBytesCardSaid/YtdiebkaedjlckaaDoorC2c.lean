/- Contracts of the readers: slices.Equal; a list that stands ahead; what is valid. -/
import Derived.Test.YtdiebkaedjlckaaDoorL3
import Derived.Test.YtdiebkaedjlckaaDoorS1e
import Derived.IntWalk
import Derived.Test.YtdiebkaedjlckaaDoorC1b
import Derived.Test.YtdiebkaedjlckaaDoorS1d
import Derived.Deep.RegionHeld3
import Derived.Test.YtdiebkaedjlckaaDoorL5
namespace Go.Proofs.YtdiebkaedjlckaaDoor
section
open Go.ChangeShapes Go.WideShapes Go.ChangeAt Go.RowKit
set_option linter.unusedSimpArgs false
set_option linter.unusedVariables false

set_option maxHeartbeats 400000 in
theorem slicesEqual_any {A A' : Option Addr} {n c n' c' : Nat} {xs ys : List Int} {w : World} {L B L' B' : Nat} (h : Ints w L B A n xs) (h' : Ints w L' B' A' n' ys) :
    Calls Tryd.prog 145 #[.slice A n c, .slice A' n' c'] w (BoolQ (sameB xs ys) w) := by
  have HL := Lib.hid h.len
  have HL' := Lib.hid h'.len
  have hm := h.max
  have hm' := h'.max
  by_cases hne : n = n'
  · subst hne
    go_enter Tryd.func145, Tryd.ntmps145
    go_wp2
    go_loopw [13] (fun i wr => ∃ k : Nat, k ≤ n ∧ i = .int .i64 k ∧ (∃ m, wr = w.drewN m) ∧ SameTo xs ys k) (fun i _ => n - (intOf i).toNat)
    case atStart => exact ⟨0, Nat.zero_le _, rfl, ⟨0, rfl⟩, fun j x y hj => absurd hj (by omega)⟩
    case round =>
      obtain ⟨k, hk, rfl, ⟨m, rfl⟩, hst⟩ := hrel
      have HS := Lib.hid hst
      clear hst
      by_cases hlt : k < n
      · obtain ⟨b, o, x, rfl, _, hc, hx⟩ := h.at_ hlt
        obtain ⟨b', o', y, rfl, _, hc', hy⟩ := h'.at_ hlt
        have hi0 : (0 : Int) ≤ (k : Int) := by omega
        have hi1 : (k : Int) < (n : Int) := by omega
        by_cases hxy : x = y
        · subst hxy
          go_wp2
          go_quiet (fail)
          go_wp2
          go_roundw
          case rel => exact ⟨k + 1, by omega, by go_num, ⟨_, rfl⟩, HS.out.succ hx.out hy.out⟩
          case measure => simp [intOf]; omega
        · have hb : (x != y) = true := by rw [bne_iff_ne]; exact hxy
          go_wp2
          go_quiet (fail)
          go_wp2
          go_ret
          have hn : ¬ xs = ys := fun e => by subst e; have h1 := hx.out; have h2 := hy.out; rw [h1] at h2; injection h2 with h2; exact hxy h2
          exact ⟨ret_bool (by simp [sameB, hn]), _, World.drewN_drewN _ _ _⟩
      · go_wp2
        go_ret
        have he : xs = ys := eq_of_take_all (by have := HL.out; have := HL'.out; omega) (fun j x y h1 h2 => HS.out j x y (by have := HL.out; have := (List.getElem?_eq_some_iff.1 h1).1; omega) h1 h2)
        exact ⟨ret_bool (by simp [sameB, he]), _, rfl⟩
  · have h1 : ((n : Int) != (n' : Int)) = true := by rw [bne_iff_ne]; omega
    go_enter Tryd.func145, Tryd.ntmps145
    go_wp2
    go_ret
    have hx : ¬ xs = ys := fun e => hne (by rw [HL.out, HL'.out, e])
    exact ⟨ret_bool (by simp [sameB, hx]), 0, rfl⟩

/-- R stands in D right ahead of the place a. -/
def aheadB (R D : List Int) (a : Nat) : Bool := decide (R.length = 0) || (decide (R.length ≤ a) && (decide (a ≤ D.length) && sameB ((D.drop (a - R.length)).take R.length) R))

set_option maxHeartbeats 1000000 in
theorem standsAhead_any {A A' A2 : Option Addr} {n c n' c' n2 c2 a : Nat} {D R : List Int} {q : Int} {w : World} {L B M C : Nat} (h : Ints w L B A n D) (g : Ints w M C A2 n2 R) (hB : B ≤ w.heap.size) (hC : C ≤ w.heap.size) (hnc : n ≤ c) (ha : a ≤ 1000) (hn2 : n2 ≤ 1000) :
    Calls Tryd.prog 140 #[.slice A2 n2 c2, .agg #[.slice (A) n c, .int .i64 ((a : Int)), .slice (A') n' c', .int .i64 (q)]] w (BoolB (aheadB R D a) w) := by
  have HL := Lib.hid h.len
  have HG := Lib.hid g.len
  have hm := h.max
  have H1 := Lib.hid (h.alloc hB (.cells #[.slice (A) n c, .int .i64 ((a : Int)), .slice (A') n' c', .int .i64 (q)] 28))
  have G1 := Lib.hid (g.alloc hC (.cells #[.slice (A) n c, .int .i64 ((a : Int)), .slice (A') n' c', .int .i64 (q)] 28))
  clear h g
  by_cases h0 : n2 = 0
  · subst h0
    have HE : Hid (aheadB R D a = true) := by show _ = _; simp [aheadB, ← HG.out]
    rw [HE.out]
    go_enter Tryd.func140, Tryd.ntmps140
    go_wp2
    go_ret
    exact ⟨rfl, by go_grown⟩
  · have hz : ((n2 : Int) == 0) = false := by simp; omega
    by_cases h1 : n2 ≤ a
    · obtain ⟨t, ht⟩ : ∃ t : Nat, t = a - n2 := ⟨_, rfl⟩
      have hw : IntKind.i64.wrap ((a : Int) - (n2 : Int)) = (t : Int) := by rw [IntWalk.i64_in _ (by omega)]; omega
      have ht0 : (0 : Int) ≤ (t : Int) := by omega
      have hta : (t : Int) ≤ (a : Int) := by omega
      by_cases h2 : a ≤ n
      · have h2i : (a : Int) ≤ (n : Int) := by omega
        have h2c : (a : Int) ≤ (c : Int) := by omega
        have hct : ¬ c = t := by omega
        have HE : Hid (aheadB R D a = sameB ((D.drop t).take (a - t)) R) := by
          show _ = _
          have e1 := HG.out
          have e2 := HL.out
          unfold aheadB
          rw [decide_eq_false (show ¬ R.length = 0 by omega), decide_eq_true (show R.length ≤ a by omega), decide_eq_true (show a ≤ D.length by omega), show a - R.length = t by omega, show a - t = R.length by omega]
          simp
        rw [HE.out]
        have S1 := Lib.hid ((H1.out.drop (a := t) (by omega)).take (m := a - t) (by omega))
        clear ht
        go_enter Tryd.func140, Tryd.ntmps140
        go_wp2_with fail
        refine (slicesEqual_any S1.out G1.out).mono ?_
        rintro e w1 ⟨rfl, m, rfl⟩
        go_wp2
        go_ret
        exact ⟨rfl, by repeat (with_reducible refine below_drewN ?_ _); go_grown⟩
      · have h2i : (n : Int) < (a : Int) := by omega
        have HE : Hid (aheadB R D a = false) := by
          show _ = _
          have e1 := HG.out
          have e2 := HL.out
          unfold aheadB
          rw [decide_eq_false (show ¬ R.length = 0 by omega), decide_eq_false (show ¬ a ≤ D.length by omega)]
          simp
        rw [HE.out]
        clear ht
        go_enter Tryd.func140, Tryd.ntmps140
        go_wp2
        go_ret
        exact ⟨rfl, by go_grown⟩
    · have hw : IntKind.i64.wrap ((a : Int) - (n2 : Int)) = (a : Int) - (n2 : Int) := IntWalk.i64_in _ (by omega)
      have h1i : (a : Int) < (n2 : Int) := by omega
      have h1z : (a : Int) - (n2 : Int) < 0 := by omega
      have HE : Hid (aheadB R D a = false) := by
        show _ = _
        have e1 := HG.out
        unfold aheadB
        rw [decide_eq_false (show ¬ R.length = 0 by omega), decide_eq_false (show ¬ R.length ≤ a by omega)]
        simp
      rw [HE.out]
      go_enter Tryd.func140, Tryd.ntmps140
      go_wp2
      go_ret
      exact ⟨rfl, by go_grown⟩
/-- A reader's numbers are valid. -/
def validR (D : List Int) (p : Int) (S : List Int) (q : Int) (R : List Int) (z : Int) : Bool := validD D p S q && (inB z 1 16 && (decide ((R.length : Int) ≤ z) && aheadB R D p.toNat))
theorem validR_iff {D S R : List Int} {p q z : Int} : validR D p S q R z = true ↔ validD D p S q = true ∧ (1 ≤ z ∧ z ≤ 16) ∧ (R.length : Int) ≤ z ∧ aheadB R D p.toNat = true := by simp [validR, inB, and_assoc]

set_option maxHeartbeats 1000000 in
theorem ValidReader_any {A A' A2 : Option Addr} {n c n' c' n2 c2 : Nat} {D S R : List Int} {p q z : Int} {w : World} {L L' B B' M C : Nat} (h : Ints w L B A n D) (h' : Ints w L' B' A' n' S) (g : Ints w M C A2 n2 R) (hB : B ≤ w.heap.size) (hB' : B' ≤ w.heap.size) (hC : C ≤ w.heap.size) (hnc : n ≤ c) :
    Calls Tryd.prog 122 #[.agg #[.slice (A) n c, .int .i64 (p), .slice (A') n' c', .int .i64 (q), .slice (A2) n2 c2, .int .i64 (z)]] w (BoolB (validR D p S q R z) w) := by
  have HG := Lib.hid g.len
  have H1 := Lib.hid (h.alloc hB (.cells #[.slice (A) n c, .int .i64 (p), .slice (A') n' c', .int .i64 (q), .slice (A2) n2 c2, .int .i64 (z)] 108))
  have H2 := Lib.hid (h'.alloc hB' (.cells #[.slice (A) n c, .int .i64 (p), .slice (A') n' c', .int .i64 (q), .slice (A2) n2 c2, .int .i64 (z)] 108))
  have G1 := Lib.hid (g.alloc hC (.cells #[.slice (A) n c, .int .i64 (p), .slice (A') n' c', .int .i64 (q), .slice (A2) n2 c2, .int .i64 (z)] 108))
  have X0 := Lib.hid (Box.new w 108 [.slice (A) n c, .int .i64 (p), .slice (A') n' c', .int .i64 (q), .slice (A2) n2 c2, .int .i64 (z)])
  clear h h' g
  go_enter Tryd.func122, Tryd.ntmps122
  go_wp2_with fail
  refine (ValidDevice_any H1.out H2.out (by first | omega | (simp; omega) | (simp; done)) (by first | omega | (simp; omega) | (simp; done))).mono ?_
  rintro e w1 ⟨rfl, hb1⟩
  (try simp only [World.size_alloc, World.size_setCell, World.size_drew] at hb1)
  have HB1 := Lib.hid hb1
  have E1 : Hid (Below w.heap.size w w1) := below_step hb1 (by go_grown) (by omega)
  have s1 := hb1.size
  (try simp only [World.size_alloc, World.size_setCell, World.size_drew] at s1)
  have X1 := Lib.hid (X0.out.below hb1 (by omega))
  have I1 := Lib.hid (H1.out.below hb1 (by omega))
  have G2 := Lib.hid (G1.out.below hb1 (by omega))
  clear hb1 HB1 H1 H2 G1 X0
  have x0 := (X1.out.2 0 _ rfl).1; have x1 := (X1.out.2 1 _ rfl).1; have x2 := (X1.out.2 2 _ rfl).1; have x3 := (X1.out.2 3 _ rfl).1; have x4 := (X1.out.2 4 _ rfl).1; have x5 := (X1.out.2 5 _ rfl).1
  cases hv : validD D p S q
  · have HV := Lib.hid hv
    clear hv
    go_wp2
    go_ret
    exact ⟨ret_bool (by simp [validR, HV.out]), E1.out⟩
  · have hp := (validD_iff.1 hv).2.2.2.1
    have HV := Lib.hid hv
    clear hv
    cases hz : inB z 1 16
    · go_wp2_with (go_at_call 64; refine (isIn_any).mono ?_; rintro e w' ⟨rfl, rfl⟩)
      go_ret
      exact ⟨ret_bool (by simp [validR, HV.out, hz]), E1.out⟩
    · have hz1 := inB_iff.1 hz
      by_cases hl : (n2 : Int) ≤ z
      · obtain ⟨a, rfl⟩ := Int.eq_ofNat_of_zero_le hp.1
        have HE : Hid (validR D a S q R z = aheadB R D a) := by
          show _ = _
          have := HG.out
          simp [validR, HV.out, hz]
          omega
        go_wp2_with (first | (go_at_call 64; refine (isIn_any).mono ?_; rintro e w' ⟨rfl, rfl⟩) | fail)
        refine (standsAhead_any I1.out G2.out (by omega) (by omega) hnc (by omega) (by omega)).mono ?_
        rintro e w2 ⟨rfl, hb2⟩
        have HB2 := Lib.hid hb2
        clear hb2
        go_wp2
        go_ret
        exact ⟨ret_bool HE.out.symm, below_step HB2.out E1.out (by omega)⟩
      · have hl2 : z < (n2 : Int) := by omega
        go_wp2_with (go_at_call 64; refine (isIn_any).mono ?_; rintro e w' ⟨rfl, rfl⟩)
        go_ret
        exact ⟨ret_bool (by have := HG.out; simp [validR, HV.out, hz]; omega), E1.out⟩
end
section
open Go.ChangeShapes Go.WideShapes Go.ChangeAt Go.RowKit
set_option linter.unusedSimpArgs false
set_option linter.unusedVariables false

/-- A reader at work in block b, its slices in new memory below that. -/
def LookPost (D : List Int) (p : Int) (S : List Int) (q : Int) (R : List Int) (z : Int) (w : World) (e : Ending) (w' : World) : Prop :=
  ∃ b A n c A' n' c' A2 n2 c2, e = .returned (.pointer (some ⟨b, 0, none⟩)) ∧ (n ≤ c ∧ n' ≤ c' ∧ n2 ≤ c2) ∧ Below w.heap.size w w' ∧ w.heap.size ≤ b ∧ Box w' b [.slice (A) n c, .int .i64 (p), .slice (A') n' c', .int .i64 (q), .slice (A2) n2 c2, .int .i64 (z)] ∧
    Ints w' w.heap.size b A n D ∧ Ints w' w.heap.size b A' n' S ∧ Ints w' w.heap.size b A2 n2 R ∧ Apart A n A' n' ∧ Apart A2 n2 A n ∧ Apart A2 n2 A' n'

set_option maxHeartbeats 1000000 in
theorem tell_any {A A' A2 : Option Addr} {n c n' c' n2 c2 b : Nat} {p q z : Int} {w : World} (hX : Box w b [.slice (A) n c, .int .i64 (p), .slice (A') n' c', .int .i64 (q), .slice (A2) n2 c2, .int .i64 (z)]) (hp : -1000 ≤ p ∧ p ≤ 1000) (hn2 : n2 ≤ 1000) :
    Calls Tryd.prog 132 #[.pointer (some ⟨b, 0, none⟩)] w (IntB (p - (n2 : Int)) w) := by
  have HX := Lib.hid hX
  have hw : IntKind.i64.wrap (p - (n2 : Int)) = p - (n2 : Int) := IntWalk.i64_in _ (by omega)
  have x0 := (HX.out.2 0 _ rfl).1; have x1 := (HX.out.2 1 _ rfl).1; have x2 := (HX.out.2 2 _ rfl).1; have x3 := (HX.out.2 3 _ rfl).1; have x4 := (HX.out.2 4 _ rfl).1; have x5 := (HX.out.2 5 _ rfl).1
  go_enter Tryd.func132, Tryd.ntmps132
  go_wp2
  go_quiet (fail)
  go_wp2
  go_ret
  exact ⟨rfl, below_drewN (Below.refl _ _) _⟩
def tellOut (D : List Int) (p : Int) (S : List Int) (q : Int) (R : List Int) (z : Int) : Int := if validR D p S q R z then p - (R.length : Int) else -1
end
section
open Go.ChangeShapes Go.WideShapes Go.ChangeAt Go.RowKit
set_option linter.unusedSimpArgs false
set_option linter.unusedVariables false

/-- A reader's numbers, as one. -/
structure Rv where
  d : List Int
  p : Int
  s : List Int
  q : Int
  r : List Int
  z : Int
def Rv.zero : Rv := ⟨[], 0, [], 0, [], 0⟩
/-- A reader and a bool, in new memory. -/
def Post2R (o : Rv × Bool) (w : World) (e : Ending) (w' : World) : Prop :=
  ∃ A n c A' n' c' A2 n2 c2, e = .returned (.tuple #[.agg #[.slice (A) n c, .int .i64 (o.1.p), .slice (A') n' c', .int .i64 (o.1.q), .slice (A2) n2 c2, .int .i64 (o.1.z)], .bool o.2]) ∧ (n ≤ c ∧ n' ≤ c' ∧ n2 ≤ c2) ∧ Below w.heap.size w w' ∧ RdrIn w' w.heap.size w'.heap.size A n A' n' A2 n2 o.1.d o.1.p o.1.s o.1.q o.1.r o.1.z
theorem Post2R.zero {w w' : World} (hb : Below w.heap.size w w') : Post2R (Rv.zero, false) w (.returned (.tuple #[.agg #[.slice none 0 0, .int .i64 0, .slice none 0 0, .int .i64 0, .slice none 0 0, .int .i64 0], .bool false])) w' :=
  ⟨none, 0, 0, none, 0, 0, none, 0, 0, rfl, ⟨Nat.le_refl _, Nat.le_refl _, Nat.le_refl _⟩, hb, DevIn.zero _ _ _, (Ints.nil _ _ _ 0 _).1, fun h => absurd h (by omega), fun h => absurd h (by omega), by unfold okInt; show _ ≤ (0 : Int) ∧ (0 : Int) ≤ _; omega⟩
theorem keep0 {w : World} {b o : Nat} {v : Value} (h : w.cell? ⟨b, o, none⟩ = some v) : w.drew.cell? ⟨b, o, none⟩ = some v := h
theorem keep6 {w : World} {b c o : Nat} {v u0 u1 u2 u3 u4 u5 : Value} (h : w.cell? ⟨b, o, none⟩ = some v) (hne : b ≠ c) :
    ((((((w.setCell ⟨c, 0, none⟩ u0).setCell ⟨c, 1, none⟩ u1).setCell ⟨c, 2, none⟩ u2).setCell ⟨c, 3, none⟩ u3).setCell ⟨c, 4, none⟩ u4).setCell ⟨c, 5, none⟩ u5).drew.cell? ⟨b, o, none⟩ = some v := by
  refine (World.cell?_of_block (w := w) (a := ⟨b, o, none⟩) ?_).trans h
  rw [show ∀ W : World, W.drew.heap = W.heap from fun _ => rfl, Below.heap_setCell _ ⟨c, 5, none⟩ u5 b hne, Below.heap_setCell _ ⟨c, 4, none⟩ u4 b hne, Below.heap_setCell _ ⟨c, 3, none⟩ u3 b hne, Below.heap_setCell _ ⟨c, 2, none⟩ u2 b hne, Below.heap_setCell _ ⟨c, 1, none⟩ u1 b hne, Below.heap_setCell _ ⟨c, 0, none⟩ u0 b hne]

def newROut (D : List Int) (p : Int) (S : List Int) (q z : Int) : Rv × Bool := if validR D p S q [] z then (⟨D, p, S, q, [], z⟩, true) else (.zero, false)
theorem newROut_le (D : List Int) (p : Int) (S : List Int) (q z : Int) : (newROut D p S q z).1.d.length ≤ 60 ∧ (newROut D p S q z).1.s.length ≤ 60 ∧ (newROut D p S q z).1.r.length ≤ 60 := by
  unfold newROut
  split
  · obtain ⟨hv, _⟩ := validR_iff.1 ‹_›
    obtain ⟨hb, hs, _⟩ := validD_iff.1 hv
    exact ⟨bytesB_le hb, by show S.length ≤ 60; omega, by show ([] : List Int).length ≤ 60; simp⟩
  · exact ⟨by decide, by decide, by decide⟩
end
end Go.Proofs.YtdiebkaedjlckaaDoor
