/- What the readers' functions give, plainly; the program's ReadSome, ReadFull, ReadRest and ReadUntil. -/
import Derived.Test.YtphkkalkajleiaaDoorC2i
import Derived.Test.YtphkkalkajleiaaDoorC2g
import Derived.Test.YtphkkalkajleiaaDoorC2c
namespace Go.Proofs.YtphkkalkajleiaaDoor
open Go.ChangeShapes Go.WideShapes Go.ChangeAt Go.RowKit
set_option linter.unusedSimpArgs false
set_option linter.unusedVariables false
set_option maxRecDepth 10000

theorem start_ok {D S R : List Int} {p q z : Int} (h : validR D p S q R z = true) : R.length + (D.length - p.toNat) ≤ 60 := by
  obtain ⟨hvd, _, _, hah⟩ := validR_iff.1 h
  obtain ⟨hb, _, _, ⟨hp0, _⟩, _⟩ := validD_iff.1 hvd
  have h60 := bytesB_le hb
  unfold aheadB at hah
  by_cases h0 : R.length = 0
  · omega
  · rw [decide_eq_false h0, Bool.false_or, Bool.and_eq_true, Bool.and_eq_true] at hah
    have h1 := of_decide_eq_true hah.1
    have h2 := of_decide_eq_true hah.2.1
    omega
/-- What is left is valid, and there is not too much of it. -/
def RsOk (D S : List Int) (T : Rs) : Prop := validD D T.p S (T.a : Int) = true ∧ T.out.length + T.r.length + (D.length - T.p.toNat) ≤ 60 ∧ 0 ≤ T.st ∧ T.st ≤ 5
def RsV (D S : List Int) (T : Rs) : Prop := validD D T.p S (T.a : Int) = true ∧ 0 ≤ T.st ∧ T.st ≤ 5
theorem RsOk.v {D S : List Int} {T : Rs} (h : RsOk D S T) : RsV D S T := ⟨h.1, h.2.2⟩
theorem fullGo_inv {D S : List Int} {z : Int} {N : Nat} (hz : 1 ≤ z) : ∀ (f : Nat) (p : Int) (a : Nat) (R out : List Int), validD D p S (a : Int) = true → out.length + R.length + (D.length - p.toNat) ≤ 60 → a ≤ 900 + out.length → RsOk D S (fullGo D S z N f p a R out)
  | 0, p, a, R, out, hv, hK, ha => ⟨hv, hK, by show (0 : Int) ≤ 0; omega, by show (0 : Int) ≤ 5; omega⟩
  | f + 1, p, a, R, out, hv, hK, ha => by
    unfold fullGo
    obtain ⟨hv1, hk1, hp1, ha1⟩ := fl_step (R := R) hv (by omega) hz
    split
    · exact ⟨hv, hK, by show (0 : Int) ≤ 0; omega, by show (0 : Int) ≤ 5; omega⟩
    · split
      · rename_i h1 h2
        have := hp1 h2
        refine fullGo_inv hz f _ _ _ _ hv1 ?_ ?_
        · rw [List.length_append, List.length_take, List.length_drop]; omega
        · rw [List.length_append, List.length_take]; omega
      · have := flS_in D S p a R
        exact ⟨hv1, by show out.length + (flR D S z p a R).length + (D.length - (flP D S z p a R).toNat) ≤ 60; omega, by show 0 ≤ flS D S p a R; omega, by show flS D S p a R ≤ 5; omega⟩
theorem untilGo_inv {D S : List Int} {z bb : Int} {N : Nat} (hz : 1 ≤ z) : ∀ (f : Nat) (p : Int) (a : Nat) (R out : List Int), validD D p S (a : Int) = true → out.length + R.length + (D.length - p.toNat) ≤ 60 → a ≤ 900 + out.length → RsOk D S (untilGo D S z N bb f p a R out)
  | 0, p, a, R, out, hv, hK, ha => ⟨hv, hK, by show (0 : Int) ≤ 0; omega, by show (0 : Int) ≤ 5; omega⟩
  | f + 1, p, a, R, out, hv, hK, ha => by
    unfold untilGo
    obtain ⟨hv1, hk1, hp1, ha1⟩ := fl_step (R := R) hv (by omega) hz
    split
    · exact ⟨hv, hK, by show (0 : Int) ≤ 0; omega, by show (0 : Int) ≤ 5; omega⟩
    · split
      · rename_i h1 h2
        have := hp1 h2
        split
        · refine ⟨hv1, ?_, by show (0 : Int) ≤ 0; omega, by show (0 : Int) ≤ 5; omega⟩
          show (out ++ (flR D S z p a R).take 1).length + ((flR D S z p a R).drop 1).length + (D.length - (flP D S z p a R).toNat) ≤ 60
          rw [List.length_append, List.length_take, List.length_drop]; omega
        · refine untilGo_inv hz f _ _ _ _ hv1 ?_ ?_
          · rw [List.length_append, List.length_take, List.length_drop]; omega
          · rw [List.length_append, List.length_take]; omega
      · have := flS_in D S p a R
        exact ⟨hv1, by show out.length + (flR D S z p a R).length + (D.length - (flP D S z p a R).toNat) ≤ 60; omega, by show 0 ≤ flS D S p a R; omega, by show flS D S p a R ≤ 5; omega⟩
def someRs (D S : List Int) (z : Int) (k : Nat) (p : Int) (a : Nat) (R : List Int) : Rs :=
  if flS D S p a R = 0 then ⟨flP D S z p a R, flA a R, (flR D S z p a R).drop (min k (flR D S z p a R).length), (flR D S z p a R).take (min k (flR D S z p a R).length), 0⟩ else ⟨flP D S z p a R, flA a R, flR D S z p a R, [], flS D S p a R⟩
theorem someRs_inv {D S R : List Int} {z p : Int} {a k : Nat} (hz : 1 ≤ z) (hv : validD D p S (a : Int) = true) (hK : R.length + (D.length - p.toNat) ≤ 60) (ha : a ≤ 900) : RsOk D S (someRs D S z k p a R) := by
  obtain ⟨hv1, hk1, hp1, ha1⟩ := fl_step (R := R) hv (by omega) hz
  unfold someRs
  split
  · refine ⟨hv1, ?_, by show (0 : Int) ≤ 0; omega, by show (0 : Int) ≤ 5; omega⟩
    show ((flR D S z p a R).take (min k (flR D S z p a R).length)).length + ((flR D S z p a R).drop (min k (flR D S z p a R).length)).length + (D.length - (flP D S z p a R).toNat) ≤ 60
    rw [List.length_take, List.length_drop]; omega
  · have := flS_in D S p a R
    exact ⟨hv1, by show ([] : List Int).length + (flR D S z p a R).length + (D.length - (flP D S z p a R).toNat) ≤ 60; simp; omega, by show 0 ≤ flS D S p a R; omega, by show flS D S p a R ≤ 5; omega⟩

def peekRs (D S : List Int) (z : Int) (k : Nat) (p : Int) (a : Nat) (R : List Int) : Rs := ⟨flP D S z p a R, flA a R, flR D S z p a R, (flR D S z p a R).take (min k (flR D S z p a R).length), flS D S p a R⟩
theorem peekRs_v {D S R : List Int} {z p : Int} {a k : Nat} (hz : 1 ≤ z) (hv : validD D p S (a : Int) = true) (ha : a ≤ 900) : RsV D S (peekRs D S z k p a R) := by
  have h := flS_in D S p a R
  exact ⟨(fl_step (R := R) hv (by omega) hz).1, h.1, by show flS D S p a R ≤ 5; omega⟩
/-- A reader, ints and an int, in new memory, all apart. -/
def Post3R (o : Rv × List Int × Int) (w : World) (e : Ending) (w' : World) : Prop :=
  ∃ A n c A' n' c' A2 n2 c2 A1 n1 c1, e = .returned (.tuple #[.agg #[.slice (A) n c, .int .i64 (o.1.p), .slice (A') n' c', .int .i64 (o.1.q), .slice (A2) n2 c2, .int .i64 (o.1.z)], .slice A1 n1 c1, .int .i64 o.2.2]) ∧ (n ≤ c ∧ n' ≤ c' ∧ n2 ≤ c2 ∧ n1 ≤ c1) ∧ Below w.heap.size w w' ∧
    RdrIn w' w.heap.size w'.heap.size A n A' n' A2 n2 o.1.d o.1.p o.1.s o.1.q o.1.r o.1.z ∧ Ints w' w.heap.size w'.heap.size A1 n1 o.2.1 ∧ Apart A1 n1 A n ∧ Apart A1 n1 A' n' ∧ Apart A1 n1 A2 n2 ∧ okInt o.2.2
theorem Post3R.zero {w w' : World} (hb : Below w.heap.size w w') : Post3R (Rv.zero, [], 5) w (.returned (.tuple #[.agg #[.slice none 0 0, .int .i64 0, .slice none 0 0, .int .i64 0, .slice none 0 0, .int .i64 0], .slice none 0 0, .int .i64 5])) w' :=
  ⟨none, 0, 0, none, 0, 0, none, 0, 0, none, 0, 0, rfl, ⟨Nat.le_refl _, Nat.le_refl _, Nat.le_refl _, Nat.le_refl _⟩, hb, ⟨DevIn.zero _ _ _, (Ints.nil _ _ _ 0 _).1, fun h => absurd h (by omega), fun h => absurd h (by omega), by unfold okInt; show _ ≤ (0 : Int) ∧ (0 : Int) ≤ _; omega⟩, (Ints.nil _ _ _ 0 _).1, fun h => absurd h (by omega), fun h => absurd h (by omega), fun h => absurd h (by omega), by unfold okInt; show _ ≤ (5 : Int) ∧ (5 : Int) ≤ _; omega⟩
def rsOut (D S : List Int) (z : Int) (T : Rs) : Rv × List Int × Int := (⟨D, T.p, S, (T.a : Int), T.r, z⟩, T.out, T.st)
def fullOut (D : List Int) (p : Int) (S : List Int) (q : Int) (R : List Int) (z N : Int) : Rv × List Int × Int := if goodR D p S q R z && inB N 0 60 then rsOut D S z (fullGo D S z N.toNat 62 p q.toNat R []) else (Rv.zero, [], 5)
def restOut (D : List Int) (p : Int) (S : List Int) (q : Int) (R : List Int) (z : Int) : Rv × List Int × Int := if goodR D p S q R z then rsOut D S z (fullGo D S z 61 62 p q.toNat R []) else (Rv.zero, [], 5)
def untilOut (D : List Int) (p : Int) (S : List Int) (q : Int) (R : List Int) (z bb N : Int) : Rv × List Int × Int := if goodR D p S q R z && inB bb 0 255 && inB N 0 60 then rsOut D S z (untilGo D S z N.toNat bb 62 p q.toNat R []) else (Rv.zero, [], 5)
def someOut (D : List Int) (p : Int) (S : List Int) (q : Int) (R : List Int) (z N : Int) : Rv × List Int × Int := if goodR D p S q R z && inB N 1 60 then rsOut D S z (someRs D S z N.toNat p q.toNat R) else (Rv.zero, [], 5)
def peekOut (D : List Int) (p : Int) (S : List Int) (q : Int) (R : List Int) (z N : Int) : Rv × List Int × Int := if goodR D p S q R z && inB N 1 60 then rsOut D S z (peekRs D S z N.toNat p q.toNat R) else (Rv.zero, [], 5)
/-- The lengths of all that is given. -/
def Len3 (o : Rv × List Int × Int) : Prop := o.1.d.length ≤ 60 ∧ o.1.s.length ≤ 60 ∧ o.1.r.length ≤ 60 ∧ o.2.1.length ≤ 60
theorem Len3.zero : Len3 (Rv.zero, [], 5) := ⟨by decide, by decide, by decide, by decide⟩
theorem Len3.rs {D S : List Int} {z : Int} {T : Rs} (h : RsOk D S T) : Len3 (rsOut D S z T) := by
  obtain ⟨hv, hK, _⟩ := h
  obtain ⟨hb, hs, _⟩ := validD_iff.1 hv
  exact ⟨bytesB_le hb, by show S.length ≤ 60; omega, by show T.r.length ≤ 60; omega, by show T.out.length ≤ 60; omega⟩
theorem good_start {D S R : List Int} {p q z : Int} (h : goodR D p S q R z = true) : 1 ≤ z ∧ validD D p S (q.toNat : Int) = true ∧ R.length + (D.length - p.toNat) ≤ 60 ∧ q.toNat ≤ 900 := by
  obtain ⟨hvr, hq⟩ := goodR_iff.1 h
  obtain ⟨hvd, hz, _, _⟩ := validR_iff.1 hvr
  obtain ⟨_, _, _, _, hq0, _⟩ := validD_iff.1 hvd
  refine ⟨hz.1, by rw [Int.toNat_of_nonneg hq0]; exact hvd, start_ok hvr, by omega⟩
theorem peekOut_le (D : List Int) (p : Int) (S : List Int) (q : Int) (R : List Int) (z N : Int) : Len3 (peekOut D p S q R z N) := by
  unfold peekOut
  split
  · obtain ⟨h1, h2, h3, h4⟩ := good_start (Bool.and_eq_true_iff.1 ‹_›).1
    obtain ⟨hb, hs, _⟩ := validD_iff.1 h2
    have hl := (fl_step (R := R) h2 (by omega) h1).2.1
    refine ⟨bytesB_le hb, by show S.length ≤ 60; omega, by show (flR D S z p q.toNat R).length ≤ 60; omega, ?_⟩
    show ((flR D S z p q.toNat R).take _).length ≤ 60
    rw [List.length_take]; omega
  · exact Len3.zero
theorem fullOut_le (D : List Int) (p : Int) (S : List Int) (q : Int) (R : List Int) (z N : Int) : Len3 (fullOut D p S q R z N) := by
  unfold fullOut
  split
  · obtain ⟨h1, h2, h3, h4⟩ := good_start (Bool.and_eq_true_iff.1 ‹_›).1
    exact Len3.rs (fullGo_inv h1 _ _ _ _ _ h2 (by simpa using h3) (by simpa using h4))
  · exact Len3.zero
theorem restOut_le (D : List Int) (p : Int) (S : List Int) (q : Int) (R : List Int) (z : Int) : Len3 (restOut D p S q R z) := by
  unfold restOut
  split
  · obtain ⟨h1, h2, h3, h4⟩ := good_start ‹_›
    exact Len3.rs (fullGo_inv h1 _ _ _ _ _ h2 (by simpa using h3) (by simpa using h4))
  · exact Len3.zero
theorem untilOut_le (D : List Int) (p : Int) (S : List Int) (q : Int) (R : List Int) (z bb N : Int) : Len3 (untilOut D p S q R z bb N) := by
  unfold untilOut
  split
  · obtain ⟨h1, h2, h3, h4⟩ := good_start (Bool.and_eq_true_iff.1 (Bool.and_eq_true_iff.1 ‹_›).1).1
    exact Len3.rs (untilGo_inv h1 _ _ _ _ _ h2 (by simpa using h3) (by simpa using h4))
  · exact Len3.zero
theorem someOut_le (D : List Int) (p : Int) (S : List Int) (q : Int) (R : List Int) (z N : Int) : Len3 (someOut D p S q R z N) := by
  unfold someOut
  split
  · obtain ⟨h1, h2, h3, h4⟩ := good_start (Bool.and_eq_true_iff.1 ‹_›).1
    exact Len3.rs (someRs_inv h1 h2 h3 h4)
  · exact Len3.zero

theorem rs_post {w w4 : World} {lo b n c n' c' n5 c5 M' C' n6 c6 : Nat} {A A' A5 A6 : Option Addr} {D S : List Int} {z : Int} {T : Rs} {u0 u1 u2 u3 u4 u5 : Value} (hE : Below w.heap.size w w4) (hlo : w.heap.size + 2 ≤ lo) (h : LookAt lo b A n c A' n' c' D S z T.p T.a A5 n5 c5 M' C' T.r w4)
    (hi : Ints w4 lo w4.heap.size A6 n6 T.out) (p1 : Apart A6 n6 A5 n5) (p2 : Apart A6 n6 A n) (p3 : Apart A6 n6 A' n') (ha : Apart A n A' n') (hinv : RsV D S T) (hz : 1 ≤ z ∧ z ≤ 16) (hc' : n' ≤ c') (hc6 : n6 ≤ c6) :
    Post3R (rsOut D S z T) w (.returned (.tuple #[.agg #[.slice (A) n c, .int .i64 (T.p), .slice (A') n' c', .int .i64 ((T.a : Int)), .slice (A5) n5 c5, .int .i64 (z)], .slice A6 n6 c6, .int .i64 T.st])) ((((((w4.setCell ⟨w.heap.size + 1, 0, none⟩ u0).setCell ⟨w.heap.size + 1, 1, none⟩ u1).setCell ⟨w.heap.size + 1, 2, none⟩ u2).setCell ⟨w.heap.size + 1, 3, none⟩ u3).setCell ⟨w.heap.size + 1, 4, none⟩ u4).setCell ⟨w.heap.size + 1, 5, none⟩ u5) := by
  obtain ⟨hX, ⟨hD, hS, hR⟩, hbM, ⟨hlob, hloM, hC⟩, ⟨hnc, hn5⟩, ha1, ha2⟩ := h
  obtain ⟨hv, hs0, hs5⟩ := hinv
  obtain ⟨_, _, _, hp, hq⟩ := validD_iff.1 hv
  have hbw := hX.lt
  refine ⟨A, n, c, A', n', c', A5, n5, c5, A6, n6, c6, rfl, ⟨hnc, hc', hn5, hc6⟩, ?_, ⟨⟨?_, ?_, ha, ?_, ?_⟩, ?_, ha1, ha2, ?_⟩, ?_, p2, p3, p1, ?_⟩
  · (repeat (with_reducible refine below_set ?_ (by omega) _))
    exact hE
  · simp only [World.size_setCell]
    refine Ints.more (lo := lo) (hi := b) ?_ (by omega) (by omega)
    (repeat (with_reducible refine Ints.set_ ?_ (by omega) _))
    exact hD
  · simp only [World.size_setCell]
    refine Ints.more (lo := lo) (hi := b) ?_ (by omega) (by omega)
    (repeat (with_reducible refine Ints.set_ ?_ (by omega) _))
    exact hS
  · unfold okInt; show _ ≤ T.p ∧ T.p ≤ _; omega
  · unfold okInt; show _ ≤ (T.a : Int) ∧ (T.a : Int) ≤ _; omega
  · simp only [World.size_setCell]
    refine Ints.more (lo := M') (hi := C') ?_ (by omega) (by omega)
    (repeat (with_reducible refine Ints.set_ ?_ (by omega) _))
    exact hR
  · unfold okInt; show _ ≤ z ∧ z ≤ _; omega
  · simp only [World.size_setCell]
    refine Ints.more (lo := lo) (hi := w4.heap.size) ?_ (by omega) (by omega)
    (repeat (with_reducible refine Ints.set_ ?_ (by omega) _))
    exact hi
  · unfold okInt; show _ ≤ T.st ∧ T.st ≤ _; omega

/-- What a method of a reader at work leaves, its list from block lo on and apart from all else. -/
def WorkQ (lo b : Nat) (A : Option Addr) (n c : Nat) (A' : Option Addr) (n' c' : Nat) (D S : List Int) (z : Int) (o : Rs) (w : World) (e : Ending) (w' : World) : Prop :=
  ∃ A1 n1 c1 A5 n5 c5 M' C', e = .returned (.tuple #[.slice A1 n1 c1, .int .i64 o.st]) ∧ n1 ≤ c1 ∧ Turn w.heap.size b w w' ∧ LookAt lo b A n c A' n' c' D S z o.p o.a A5 n5 c5 M' C' o.r w' ∧ Ints w' lo w'.heap.size A1 n1 o.out ∧ Apart A1 n1 A5 n5 ∧ Apart A1 n1 A n ∧ Apart A1 n1 A' n'
theorem WorkPost.q {lo b n c n' c' a n2 c2 M C : Nat} {A A' A2 : Option Addr} {D S R : List Int} {z p : Int} {o : Rs} {w : World} (h : LookAt lo b A n c A' n' c' D S z p a A2 n2 c2 M C R w) {e : Ending} {w' : World} (g : WorkPost lo b A n c A' n' c' D S z o w e w') : WorkQ lo b A n c A' n' c' D S z o w e w' := by
  obtain ⟨A1, n1, c1, A5, n5, c5, M', C', he, hc, ht, hl, hi, hap⟩ := g
  have hbw := h.1.lt
  exact ⟨A1, n1, c1, A5, n5, c5, M', C', he, hc, ht, hl, hi.more (by have := h.2.2.2.1.1; omega) (Nat.le_refl _), hap, (Apart.of_le hl.2.1.1 hi (by omega)).symm, (Apart.of_le hl.2.1.2.1 hi (by omega)).symm⟩
theorem some_q {lo b n c n' c' a n2 c2 M C k : Nat} {A A' A2 : Option Addr} {D S R : List Int} {z p : Int} {w : World} (h : LookAt lo b A n c A' n' c' D S z p a A2 n2 c2 M C R w) (hv : validD D p S (a : Int) = true) (ha : a < 1000) (hz : 1 ≤ z) (hz' : z ≤ 60) (hk : k ≤ 1000000) :
    Calls Tryd.prog 128 #[.pointer (some ⟨b, 0, none⟩), .int .i64 (k : Int)] w (WorkQ lo b A n c A' n' c' D S z (someRs D S z k p a R) w) := by
  have hlo := h.2.2.2.1
  by_cases hst : flS D S p a R = 0
  · unfold someRs
    rw [if_pos hst]
    refine (some_ok h hv ha hz hz' hk hst).mono ?_
    rintro e w' ⟨A1, m, A5, n5, c5, M', C', rfl, rfl, ht, hl, hi, hap, hap1, hor⟩
    have := ht.size
    exact ⟨A1, _, _, A5, n5, c5, M', C', rfl, Nat.le_refl _, ht, hl, hi.more hl.2.2.2.1.2.1 hl.2.2.2.1.2.2, hap, hap1.1, hap1.2⟩
  · unfold someRs
    rw [if_neg hst]
    refine (some_no h hv ha hz hz' hst).mono ?_
    rintro e w' ⟨A5, n5, c5, M', C', rfl, ht, hl, _⟩
    exact ⟨none, 0, 0, A5, n5, c5, M', C', rfl, Nat.le_refl _, ht, hl, (Ints.nil _ _ _ 0 _).1, Apart.zero.symm, Apart.zero.symm, Apart.zero.symm⟩
end Go.Proofs.YtphkkalkajleiaaDoor
