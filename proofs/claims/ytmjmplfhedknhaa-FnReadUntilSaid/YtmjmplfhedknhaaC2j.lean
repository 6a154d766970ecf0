/- What the readers' functions give, plainly; the program's ReadSome, ReadFull, ReadRest and ReadUntil. -/
import Derived.Test.YtmjmplfhedknhaaC2i
import Derived.Test.YtmjmplfhedknhaaC2g
import Derived.Test.YtmjmplfhedknhaaC2c
namespace Go.Proofs.Ytmjmplfhedknhaa
open Go.ChangeShapes Go.WideShapes Go.ChangeAt Go.RowKit
set_option linter.unusedSimpArgs false
set_option linter.unusedVariables false
set_option maxRecDepth 10000

theorem start_ok {D S R : List Int} {p q z : Int} (h : validR D p S q R z = true) : R.length + (D.length - p.toNat) ≤ 60 := by
  obtain ⟨hvd, _, _, hah⟩ := validR_iff.1 h
  obtain ⟨hb, _, _, ⟨hp0, _⟩, _⟩ := validD_iff.1 hvd
  have h60 := bytesB_le hb
  unfold aheadB at hah
  by_cases h0 : R.length = 0
  · omega
  · rw [decide_eq_false h0, Bool.false_or, Bool.and_eq_true, Bool.and_eq_true] at hah
    have h1 := of_decide_eq_true hah.1
    have h2 := of_decide_eq_true hah.2.1
    omega
/-- What is left is valid, and there is not too much of it. -/
def RsOk (D S : List Int) (T : Rs) : Prop := validD D T.p S (T.a : Int) = true ∧ T.out.length + T.r.length + (D.length - T.p.toNat) ≤ 60 ∧ 0 ≤ T.st ∧ T.st ≤ 5
def RsV (D S : List Int) (T : Rs) : Prop := validD D T.p S (T.a : Int) = true ∧ 0 ≤ T.st ∧ T.st ≤ 5
theorem RsOk.v {D S : List Int} {T : Rs} (h : RsOk D S T) : RsV D S T := ⟨h.1, h.2.2⟩
theorem fullGo_inv {D S : List Int} {z : Int} {N : Nat} (hz : 1 ≤ z) : ∀ (f : Nat) (p : Int) (a : Nat) (R out : List Int), validD D p S (a : Int) = true → out.length + R.length + (D.length - p.toNat) ≤ 60 → a ≤ 900 + out.length → RsOk D S (fullGo D S z N f p a R out)
  | 0, p, a, R, out, hv, hK, ha => ⟨hv, hK, by show (0 : Int) ≤ 0; omega, by show (0 : Int) ≤ 5; omega⟩
  | f + 1, p, a, R, out, hv, hK, ha => by
    unfold fullGo
    obtain ⟨hv1, hk1, hp1, ha1⟩ := fl_step (R := R) hv (by omega) hz
    split
    · exact ⟨hv, hK, by show (0 : Int) ≤ 0; omega, by show (0 : Int) ≤ 5; omega⟩
    · split
      · rename_i h1 h2
        have := hp1 h2
        refine fullGo_inv hz f _ _ _ _ hv1 ?_ ?_
        · rw [List.length_append, List.length_take, List.length_drop]; omega
        · rw [List.length_append, List.length_take]; omega
      · have := flS_in D S p a R
        exact ⟨hv1, by show out.length + (flR D S z p a R).length + (D.length - (flP D S z p a R).toNat) ≤ 60; omega, by show 0 ≤ flS D S p a R; omega, by show flS D S p a R ≤ 5; omega⟩
theorem untilGo_inv {D S : List Int} {z bb : Int} {N : Nat} (hz : 1 ≤ z) : ∀ (f : Nat) (p : Int) (a : Nat) (R out : List Int), validD D p S (a : Int) = true → out.length + R.length + (D.length - p.toNat) ≤ 60 → a ≤ 900 + out.length → RsOk D S (untilGo D S z N bb f p a R out)
  | 0, p, a, R, out, hv, hK, ha => ⟨hv, hK, by show (0 : Int) ≤ 0; omega, by show (0 : Int) ≤ 5; omega⟩
  | f + 1, p, a, R, out, hv, hK, ha => by
    unfold untilGo
    obtain ⟨hv1, hk1, hp1, ha1⟩ := fl_step (R := R) hv (by omega) hz
    split
    · exact ⟨hv, hK, by show (0 : Int) ≤ 0; omega, by show (0 : Int) ≤ 5; omega⟩
    · split
      · rename_i h1 h2
        have := hp1 h2
        split
        · refine ⟨hv1, ?_, by show (0 : Int) ≤ 0; omega, by show (0 : Int) ≤ 5; omega⟩
          show (out ++ (flR D S z p a R).take 1).length + ((flR D S z p a R).drop 1).length + (D.length - (flP D S z p a R).toNat) ≤ 60
          rw [List.length_append, List.length_take, List.length_drop]; omega
        · refine untilGo_inv hz f _ _ _ _ hv1 ?_ ?_
          · rw [List.length_append, List.length_take, List.length_drop]; omega
          · rw [List.length_append, List.length_take]; omega
      · have := flS_in D S p a R
        exact ⟨hv1, by show out.length + (flR D S z p a R).length + (D.length - (flP D S z p a R).toNat) ≤ 60; omega, by show 0 ≤ flS D S p a R; omega, by show flS D S p a R ≤ 5; omega⟩
def someRs (D S : List Int) (z : Int) (k : Nat) (p : Int) (a : Nat) (R : List Int) : Rs :=
  if flS D S p a R = 0 then ⟨flP D S z p a R, flA a R, (flR D S z p a R).drop (min k (flR D S z p a R).length), (flR D S z p a R).take (min k (flR D S z p a R).length), 0⟩ else ⟨flP D S z p a R, flA a R, flR D S z p a R, [], flS D S p a R⟩
theorem someRs_inv {D S R : List Int} {z p : Int} {a k : Nat} (hz : 1 ≤ z) (hv : validD D p S (a : Int) = true) (hK : R.length + (D.length - p.toNat) ≤ 60) (ha : a ≤ 900) : RsOk D S (someRs D S z k p a R) := by
  obtain ⟨hv1, hk1, hp1, ha1⟩ := fl_step (R := R) hv (by omega) hz
  unfold someRs
  split
  · refine ⟨hv1, ?_, by show (0 : Int) ≤ 0; omega, by show (0 : Int) ≤ 5; omega⟩
    show ((flR D S z p a R).take (min k (flR D S z p a R).length)).length + ((flR D S z p a R).drop (min k (flR D S z p a R).length)).length + (D.length - (flP D S z p a R).toNat) ≤ 60
    rw [List.length_take, List.length_drop]; omega
  · have := flS_in D S p a R
    exact ⟨hv1, by show ([] : List Int).length + (flR D S z p a R).length + (D.length - (flP D S z p a R).toNat) ≤ 60; simp; omega, by show 0 ≤ flS D S p a R; omega, by show flS D S p a R ≤ 5; omega⟩

def peekRs (D S : List Int) (z : Int) (k : Nat) (p : Int) (a : Nat) (R : List Int) : Rs := ⟨flP D S z p a R, flA a R, flR D S z p a R, (flR D S z p a R).take (min k (flR D S z p a R).length), flS D S p a R⟩
theorem peekRs_v {D S R : List Int} {z p : Int} {a k : Nat} (hz : 1 ≤ z) (hv : validD D p S (a : Int) = true) (ha : a ≤ 900) : RsV D S (peekRs D S z k p a R) := by
  have h := flS_in D S p a R
  exact ⟨(fl_step (R := R) hv (by omega) hz).1, h.1, by show flS D S p a R ≤ 5; omega⟩
/-- A reader, ints and an int, in new memory, all apart. -/
def Post3R (o : Rv × List Int × Int) (w : World) (e : Ending) (w' : World) : Prop :=
  ∃ A n c A' n' c' A2 n2 c2 A1 n1 c1, e = .returned (.tuple #[.agg #[.slice (A) n c, .int .i64 (o.1.p), .slice (A') n' c', .int .i64 (o.1.q), .slice (A2) n2 c2, .int .i64 (o.1.z)], .slice A1 n1 c1, .int .i64 o.2.2]) ∧ (n ≤ c ∧ n' ≤ c' ∧ n2 ≤ c2 ∧ n1 ≤ c1) ∧ Below w.heap.size w w' ∧
    RdrIn w' w.heap.size w'.heap.size A n A' n' A2 n2 o.1.d o.1.p o.1.s o.1.q o.1.r o.1.z ∧ Ints w' w.heap.size w'.heap.size A1 n1 o.2.1 ∧ Apart A1 n1 A n ∧ Apart A1 n1 A' n' ∧ Apart A1 n1 A2 n2 ∧ okInt o.2.2
theorem Post3R.zero {w w' : World} (hb : Below w.heap.size w w') : Post3R (Rv.zero, [], 5) w (.returned (.tuple #[.agg #[.slice none 0 0, .int .i64 0, .slice none 0 0, .int .i64 0, .slice none 0 0, .int .i64 0], .slice none 0 0, .int .i64 5])) w' :=
  ⟨none, 0, 0, none, 0, 0, none, 0, 0, none, 0, 0, rfl, ⟨Nat.le_refl _, Nat.le_refl _, Nat.le_refl _, Nat.le_refl _⟩, hb, ⟨DevIn.zero _ _ _, (Ints.nil _ _ _ 0 _).1, fun h => absurd h (by omega), fun h => absurd h (by omega), by unfold okInt; show _ ≤ (0 : Int) ∧ (0 : Int) ≤ _; omega⟩, (Ints.nil _ _ _ 0 _).1, fun h => absurd h (by omega), fun h => absurd h (by omega), fun h => absurd h (by omega), by unfold okInt; show _ ≤ (5 : Int) ∧ (5 : Int) ≤ _; omega⟩
def rsOut (D S : List Int) (z : Int) (T : Rs) : Rv × List Int × Int := (⟨D, T.p, S, (T.a : Int), T.r, z⟩, T.out, T.st)
def fullOut (D : List Int) (p : Int) (S : List Int) (q : Int) (R : List Int) (z N : Int) : Rv × List Int × Int := if goodR D p S q R z && inB N 0 60 then rsOut D S z (fullGo D S z N.toNat 62 p q.toNat R []) else (Rv.zero, [], 5)
def restOut (D : List Int) (p : Int) (S : List Int) (q : Int) (R : List Int) (z : Int) : Rv × List Int × Int := if goodR D p S q R z then rsOut D S z (fullGo D S z 61 62 p q.toNat R []) else (Rv.zero, [], 5)
def untilOut (D : List Int) (p : Int) (S : List Int) (q : Int) (R : List Int) (z bb N : Int) : Rv × List Int × Int := if goodR D p S q R z && inB bb 0 255 && inB N 0 60 then rsOut D S z (untilGo D S z N.toNat bb 62 p q.toNat R []) else (Rv.zero, [], 5)
def someOut (D : List Int) (p : Int) (S : List Int) (q : Int) (R : List Int) (z N : Int) : Rv × List Int × Int := if goodR D p S q R z && inB N 1 60 then rsOut D S z (someRs D S z N.toNat p q.toNat R) else (Rv.zero, [], 5)
def peekOut (D : List Int) (p : Int) (S : List Int) (q : Int) (R : List Int) (z N : Int) : Rv × List Int × Int := if goodR D p S q R z && inB N 1 60 then rsOut D S z (peekRs D S z N.toNat p q.toNat R) else (Rv.zero, [], 5)
/-- The lengths of all that is given. -/
def Len3 (o : Rv × List Int × Int) : Prop := o.1.d.length ≤ 60 ∧ o.1.s.length ≤ 60 ∧ o.1.r.length ≤ 60 ∧ o.2.1.length ≤ 60
theorem Len3.zero : Len3 (Rv.zero, [], 5) := ⟨by decide, by decide, by decide, by decide⟩
theorem Len3.rs {D S : List Int} {z : Int} {T : Rs} (h : RsOk D S T) : Len3 (rsOut D S z T) := by
  obtain ⟨hv, hK, _⟩ := h
  obtain ⟨hb, hs, _⟩ := validD_iff.1 hv
  exact ⟨bytesB_le hb, by show S.length ≤ 60; omega, by show T.r.length ≤ 60; omega, by show T.out.length ≤ 60; omega⟩
theorem good_start {D S R : List Int} {p q z : Int} (h : goodR D p S q R z = true) : 1 ≤ z ∧ validD D p S (q.toNat : Int) = true ∧ R.length + (D.length - p.toNat) ≤ 60 ∧ q.toNat ≤ 900 := by
  obtain ⟨hvr, hq⟩ := goodR_iff.1 h
  obtain ⟨hvd, hz, _, _⟩ := validR_iff.1 hvr
  obtain ⟨_, _, _, _, hq0, _⟩ := validD_iff.1 hvd
  refine ⟨hz.1, by rw [Int.toNat_of_nonneg hq0]; exact hvd, start_ok hvr, by omega⟩
theorem peekOut_le (D : List Int) (p : Int) (S : List Int) (q : Int) (R : List Int) (z N : Int) : Len3 (peekOut D p S q R z N) := by
  unfold peekOut
  split
  · obtain ⟨h1, h2, h3, h4⟩ := good_start (Bool.and_eq_true_iff.1 ‹_›).1
    obtain ⟨hb, hs, _⟩ := validD_iff.1 h2
    have hl := (fl_step (R := R) h2 (by omega) h1).2.1
    refine ⟨bytesB_le hb, by show S.length ≤ 60; omega, by show (flR D S z p q.toNat R).length ≤ 60; omega, ?_⟩
    show ((flR D S z p q.toNat R).take _).length ≤ 60
    rw [List.length_take]; omega
  · exact Len3.zero
theorem fullOut_le (D : List Int) (p : Int) (S : List Int) (q : Int) (R : List Int) (z N : Int) : Len3 (fullOut D p S q R z N) := by
  unfold fullOut
  split
  · obtain ⟨h1, h2, h3, h4⟩ := good_start (Bool.and_eq_true_iff.1 ‹_›).1
    exact Len3.rs (fullGo_inv h1 _ _ _ _ _ h2 (by simpa using h3) (by simpa using h4))
  · exact Len3.zero
theorem restOut_le (D : List Int) (p : Int) (S : List Int) (q : Int) (R : List Int) (z : Int) : Len3 (restOut D p S q R z) := by
  unfold restOut
  split
  · obtain ⟨h1, h2, h3, h4⟩ := good_start ‹_›
    exact Len3.rs (fullGo_inv h1 _ _ _ _ _ h2 (by simpa using h3) (by simpa using h4))
  · exact Len3.zero
theorem untilOut_le (D : List Int) (p : Int) (S : List Int) (q : Int) (R : List Int) (z bb N : Int) : Len3 (untilOut D p S q R z bb N) := by
  unfold untilOut
  split
  · obtain ⟨h1, h2, h3, h4⟩ := good_start (Bool.and_eq_true_iff.1 (Bool.and_eq_true_iff.1 ‹_›).1).1
    exact Len3.rs (untilGo_inv h1 _ _ _ _ _ h2 (by simpa using h3) (by simpa using h4))
  · exact Len3.zero
theorem someOut_le (D : List Int) (p : Int) (S : List Int) (q : Int) (R : List Int) (z N : Int) : Len3 (someOut D p S q R z N) := by
  unfold someOut
  split
  · obtain ⟨h1, h2, h3, h4⟩ := good_start (Bool.and_eq_true_iff.1 ‹_›).1
    exact Len3.rs (someRs_inv h1 h2 h3 h4)
  · exact Len3.zero

theorem rs_post {w w4 : World} {lo b n c n' c' n5 c5 M' C' n6 c6 : Nat} {A A' A5 A6 : Option Addr} {D S : List Int} {z : Int} {T : Rs} {u0 u1 u2 u3 u4 u5 : Value} (hE : Below w.heap.size w w4) (hlo : w.heap.size + 2 ≤ lo) (h : LookAt lo b A n c A' n' c' D S z T.p T.a A5 n5 c5 M' C' T.r w4)
    (hi : Ints w4 lo w4.heap.size A6 n6 T.out) (p1 : Apart A6 n6 A5 n5) (p2 : Apart A6 n6 A n) (p3 : Apart A6 n6 A' n') (ha : Apart A n A' n') (hinv : RsV D S T) (hz : 1 ≤ z ∧ z ≤ 16) (hc' : n' ≤ c') (hc6 : n6 ≤ c6) :
    Post3R (rsOut D S z T) w (.returned (.tuple #[.agg #[.slice (A) n c, .int .i64 (T.p), .slice (A') n' c', .int .i64 ((T.a : Int)), .slice (A5) n5 c5, .int .i64 (z)], .slice A6 n6 c6, .int .i64 T.st])) ((((((w4.setCell ⟨w.heap.size + 1, 0, none⟩ u0).setCell ⟨w.heap.size + 1, 1, none⟩ u1).setCell ⟨w.heap.size + 1, 2, none⟩ u2).setCell ⟨w.heap.size + 1, 3, none⟩ u3).setCell ⟨w.heap.size + 1, 4, none⟩ u4).setCell ⟨w.heap.size + 1, 5, none⟩ u5) := by
  obtain ⟨hX, ⟨hD, hS, hR⟩, hbM, ⟨hlob, hloM, hC⟩, ⟨hnc, hn5⟩, ha1, ha2⟩ := h
  obtain ⟨hv, hs0, hs5⟩ := hinv
  obtain ⟨_, _, _, hp, hq⟩ := validD_iff.1 hv
  have hbw := hX.lt
  refine ⟨A, n, c, A', n', c', A5, n5, c5, A6, n6, c6, rfl, ⟨hnc, hc', hn5, hc6⟩, ?_, ⟨⟨?_, ?_, ha, ?_, ?_⟩, ?_, ha1, ha2, ?_⟩, ?_, p2, p3, p1, ?_⟩
  · (repeat (with_reducible refine below_set ?_ (by omega) _))
    exact hE
  · simp only [World.size_setCell]
    refine Ints.more (lo := lo) (hi := b) ?_ (by omega) (by omega)
    (repeat (with_reducible refine Ints.set_ ?_ (by omega) _))
    exact hD
  · simp only [World.size_setCell]
    refine Ints.more (lo := lo) (hi := b) ?_ (by omega) (by omega)
    (repeat (with_reducible refine Ints.set_ ?_ (by omega) _))
    exact hS
  · unfold okInt; show _ ≤ T.p ∧ T.p ≤ _; omega
  · unfold okInt; show _ ≤ (T.a : Int) ∧ (T.a : Int) ≤ _; omega
  · simp only [World.size_setCell]
    refine Ints.more (lo := M') (hi := C') ?_ (by omega) (by omega)
    (repeat (with_reducible refine Ints.set_ ?_ (by omega) _))
    exact hR
  · unfold okInt; show _ ≤ z ∧ z ≤ _; omega
  · simp only [World.size_setCell]
    refine Ints.more (lo := lo) (hi := w4.heap.size) ?_ (by omega) (by omega)
    (repeat (with_reducible refine Ints.set_ ?_ (by omega) _))
    exact hi
  · unfold okInt; show _ ≤ T.st ∧ T.st ≤ _; omega

/-- What a method of a reader at work leaves, its list from block lo on and apart from all else. -/
def WorkQ (lo b : Nat) (A : Option Addr) (n c : Nat) (A' : Option Addr) (n' c' : Nat) (D S : List Int) (z : Int) (o : Rs) (w : World) (e : Ending) (w' : World) : Prop :=
  ∃ A1 n1 c1 A5 n5 c5 M' C', e = .returned (.tuple #[.slice A1 n1 c1, .int .i64 o.st]) ∧ n1 ≤ c1 ∧ Turn w.heap.size b w w' ∧ LookAt lo b A n c A' n' c' D S z o.p o.a A5 n5 c5 M' C' o.r w' ∧ Ints w' lo w'.heap.size A1 n1 o.out ∧ Apart A1 n1 A5 n5 ∧ Apart A1 n1 A n ∧ Apart A1 n1 A' n'
theorem WorkPost.q {lo b n c n' c' a n2 c2 M C : Nat} {A A' A2 : Option Addr} {D S R : List Int} {z p : Int} {o : Rs} {w : World} (h : LookAt lo b A n c A' n' c' D S z p a A2 n2 c2 M C R w) {e : Ending} {w' : World} (g : WorkPost lo b A n c A' n' c' D S z o w e w') : WorkQ lo b A n c A' n' c' D S z o w e w' := by
  obtain ⟨A1, n1, c1, A5, n5, c5, M', C', he, hc, ht, hl, hi, hap⟩ := g
  have hbw := h.1.lt
  exact ⟨A1, n1, c1, A5, n5, c5, M', C', he, hc, ht, hl, hi.more (by have := h.2.2.2.1.1; omega) (Nat.le_refl _), hap, (Apart.of_le hl.2.1.1 hi (by omega)).symm, (Apart.of_le hl.2.1.2.1 hi (by omega)).symm⟩
theorem some_q {lo b n c n' c' a n2 c2 M C k : Nat} {A A' A2 : Option Addr} {D S R : List Int} {z p : Int} {w : World} (h : LookAt lo b A n c A' n' c' D S z p a A2 n2 c2 M C R w) (hv : validD D p S (a : Int) = true) (ha : a < 1000) (hz : 1 ≤ z) (hz' : z ≤ 60) (hk : k ≤ 1000000) :
    Calls Try.prog 40 #[.pointer (some ⟨b, 0, none⟩), .int .i64 (k : Int)] w (WorkQ lo b A n c A' n' c' D S z (someRs D S z k p a R) w) := by
  have hlo := h.2.2.2.1
  by_cases hst : flS D S p a R = 0
  · unfold someRs
    rw [if_pos hst]
    refine (some_ok h hv ha hz hz' hk hst).mono ?_
    rintro e w' ⟨A1, m, A5, n5, c5, M', C', rfl, rfl, ht, hl, hi, hap, hap1, hor⟩
    have := ht.size
    exact ⟨A1, _, _, A5, n5, c5, M', C', rfl, Nat.le_refl _, ht, hl, hi.more hl.2.2.2.1.2.1 hl.2.2.2.1.2.2, hap, hap1.1, hap1.2⟩
  · unfold someRs
    rw [if_neg hst]
    refine (some_no h hv ha hz hz' hst).mono ?_
    rintro e w' ⟨A5, n5, c5, M', C', rfl, ht, hl, _⟩
    exact ⟨none, 0, 0, A5, n5, c5, M', C', rfl, Nat.le_refl _, ht, hl, (Ints.nil _ _ _ 0 _).1, Apart.zero.symm, Apart.zero.symm, Apart.zero.symm⟩
set_option maxHeartbeats 4000000 in
theorem ReadSome_any {A A' A2 : Option Addr} {n c n' c' n2 c2 : Nat} {D S R : List Int} {p q z N : Int} {w : World} {L L' B B' M C : Nat} (h : Ints w L B A n D) (h' : Ints w L' B' A' n' S) (g : Ints w M C A2 n2 R) (hB : B ≤ w.heap.size) (hB' : B' ≤ w.heap.size) (hC : C ≤ w.heap.size) (hnc : n ≤ c) :
    Calls Try.prog 10 #[.agg #[.slice (A) n c, .int .i64 (p), .slice (A') n' c', .int .i64 (q), .slice (A2) n2 c2, .int .i64 (z)], .int .i64 N] w (Post3R (someOut D p S q R z N) w) := by
  have HG := Lib.hid g.len
  have HL := Lib.hid h.len
  have HL' := Lib.hid h'.len
  have H1 : Hid (Ints ((w.alloc (.cells #[.slice (A) n c, .int .i64 (p), .slice (A') n' c', .int .i64 (q), .slice (A2) n2 c2, .int .i64 (z)] 27)).alloc (.cells #[.slice none 0 0, .int .i64 0, .slice none 0 0, .int .i64 0, .slice none 0 0, .int .i64 0] 27)) L B A n D) := (h.alloc hB _).alloc (by first | omega | (simp; omega) | (simp; done)) _
  have H2 : Hid (Ints ((w.alloc (.cells #[.slice (A) n c, .int .i64 (p), .slice (A') n' c', .int .i64 (q), .slice (A2) n2 c2, .int .i64 (z)] 27)).alloc (.cells #[.slice none 0 0, .int .i64 0, .slice none 0 0, .int .i64 0, .slice none 0 0, .int .i64 0] 27)) L' B' A' n' S) := (h'.alloc hB' _).alloc (by first | omega | (simp; omega) | (simp; done)) _
  have G1 : Hid (Ints ((w.alloc (.cells #[.slice (A) n c, .int .i64 (p), .slice (A') n' c', .int .i64 (q), .slice (A2) n2 c2, .int .i64 (z)] 27)).alloc (.cells #[.slice none 0 0, .int .i64 0, .slice none 0 0, .int .i64 0, .slice none 0 0, .int .i64 0] 27)) M C A2 n2 R) := (g.alloc hC _).alloc (by first | omega | (simp; omega) | (simp; done)) _
  have X0 : Hid (Box ((w.alloc (.cells #[.slice (A) n c, .int .i64 (p), .slice (A') n' c', .int .i64 (q), .slice (A2) n2 c2, .int .i64 (z)] 27)).alloc (.cells #[.slice none 0 0, .int .i64 0, .slice none 0 0, .int .i64 0, .slice none 0 0, .int .i64 0] 27)) w.heap.size [.slice (A) n c, .int .i64 (p), .slice (A') n' c', .int .i64 (q), .slice (A2) n2 c2, .int .i64 (z)]) := (Box.new w 27 [.slice (A) n c, .int .i64 (p), .slice (A') n' c', .int .i64 (q), .slice (A2) n2 c2, .int .i64 (z)]).alloc _
  have R0 : Hid (Box ((w.alloc (.cells #[.slice (A) n c, .int .i64 (p), .slice (A') n' c', .int .i64 (q), .slice (A2) n2 c2, .int .i64 (z)] 27)).alloc (.cells #[.slice none 0 0, .int .i64 0, .slice none 0 0, .int .i64 0, .slice none 0 0, .int .i64 0] 27)) (w.heap.size + 1) [.slice none 0 0, .int .i64 0, .slice none 0 0, .int .i64 0, .slice none 0 0, .int .i64 0]) := by
    have hx := Box.new (w.alloc (.cells #[.slice (A) n c, .int .i64 (p), .slice (A') n' c', .int .i64 (q), .slice (A2) n2 c2, .int .i64 (z)] 27)) 27 [.slice none 0 0, .int .i64 0, .slice none 0 0, .int .i64 0, .slice none 0 0, .int .i64 0]
    rw [World.size_alloc] at hx
    exact hx
  have E0 : Hid (Below w.heap.size w ((w.alloc (.cells #[.slice (A) n c, .int .i64 (p), .slice (A') n' c', .int .i64 (q), .slice (A2) n2 c2, .int .i64 (z)] 27)).alloc (.cells #[.slice none 0 0, .int .i64 0, .slice none 0 0, .int .i64 0, .slice none 0 0, .int .i64 0] 27))) := (by go_grown : Below w.heap.size w _)
  have s0 : (((w.alloc (.cells #[.slice (A) n c, .int .i64 (p), .slice (A') n' c', .int .i64 (q), .slice (A2) n2 c2, .int .i64 (z)] 27)).alloc (.cells #[.slice none 0 0, .int .i64 0, .slice none 0 0, .int .i64 0, .slice none 0 0, .int .i64 0] 27))).heap.size = w.heap.size + 2 := by simp
  clear h h' g
  go_enter Try.func10, Try.ntmps10
  go_wp2_with fail
  generalize ((w.alloc (.cells #[.slice (A) n c, .int .i64 (p), .slice (A') n' c', .int .i64 (q), .slice (A2) n2 c2, .int .i64 (z)] 27)).alloc (.cells #[.slice none 0 0, .int .i64 0, .slice none 0 0, .int .i64 0, .slice none 0 0, .int .i64 0] 27)) = w0 at *
  refine (canRead_any H1.out H2.out G1.out (by omega) (by omega) (by omega) hnc).mono ?_
  rintro e w1 ⟨rfl, hb1⟩
  have s1 := hb1.size
  have E1 := Lib.hid (below_step hb1 E0.out (by omega))
  have X1 := Lib.hid (X0.out.below hb1 (by omega))
  have R1 := Lib.hid (R0.out.below hb1 (by omega))
  have I1 := Lib.hid (H1.out.below hb1 (by omega))
  have I2 := Lib.hid (H2.out.below hb1 (by omega))
  have G2 := Lib.hid (G1.out.below hb1 (by omega))
  clear hb1 H1 H2 G1 X0 R0 E0
  cases hg : goodR D p S q R z
  · have HO : Hid (someOut D p S q R z N = (Rv.zero, [], 5)) := by show _ = _; simp [someOut, hg]
    clear hg
    have r0 := (R1.out.2 0 _ rfl).1; have r1 := (R1.out.2 1 _ rfl).1; have r2 := (R1.out.2 2 _ rfl).1; have r3 := (R1.out.2 3 _ rfl).1; have r4 := (R1.out.2 4 _ rfl).1; have r5 := (R1.out.2 5 _ rfl).1
    have g0 := (R1.out.2 0 _ rfl).2; have g1 := (R1.out.2 1 _ rfl).2; have g2 := (R1.out.2 2 _ rfl).2; have g3 := (R1.out.2 3 _ rfl).2; have g4 := (R1.out.2 4 _ rfl).2; have g5 := (R1.out.2 5 _ rfl).2
    go_wp2
    refine bodyPost_ret (v := .tuple #[.agg #[.slice none 0 0, .int .i64 0, .slice none 0 0, .int .i64 0, .slice none 0 0, .int .i64 0], .slice none 0 0, .int .i64 5]) (by simp [results, Try.results10, go_sem, r0, r1, r2, r3, r4, r5, g0, g1, g2, g3, g4, g5]) rfl ?_
    rw [HO.out]
    refine Post3R.zero ?_
    (repeat (with_reducible refine below_set ?_ (by omega) _))
    exact E1.out
  · obtain ⟨hvr, hq9⟩ := goodR_iff.1 hg
    cases hi0 : inB N 1 60
    · have HO : Hid (someOut D p S q R z N = (Rv.zero, [], 5)) := by show _ = _; simp [someOut, hg, hi0]
      clear hg hvr
      have r0 := (R1.out.2 0 _ rfl).1; have r1 := (R1.out.2 1 _ rfl).1; have r2 := (R1.out.2 2 _ rfl).1; have r3 := (R1.out.2 3 _ rfl).1; have r4 := (R1.out.2 4 _ rfl).1; have r5 := (R1.out.2 5 _ rfl).1
      have g0 := (R1.out.2 0 _ rfl).2; have g1 := (R1.out.2 1 _ rfl).2; have g2 := (R1.out.2 2 _ rfl).2; have g3 := (R1.out.2 3 _ rfl).2; have g4 := (R1.out.2 4 _ rfl).2; have g5 := (R1.out.2 5 _ rfl).2
      go_wp2_with (go_at_call 38; refine (isIn_any).mono ?_; rintro e w' ⟨rfl, rfl⟩)
      refine bodyPost_ret (v := .tuple #[.agg #[.slice none 0 0, .int .i64 0, .slice none 0 0, .int .i64 0, .slice none 0 0, .int .i64 0], .slice none 0 0, .int .i64 5]) (by simp [results, Try.results10, go_sem, r0, r1, r2, r3, r4, r5, g0, g1, g2, g3, g4, g5]) rfl ?_
      rw [HO.out]
      refine Post3R.zero ?_
      (repeat (with_reducible refine below_set ?_ (by omega) _))
      exact E1.out
    · have hj0 := inB_iff.1 hi0
      obtain ⟨hvd, hz, hRz, hah⟩ := validR_iff.1 hvr
      obtain ⟨hb, hs12, _, hp, hq⟩ := validD_iff.1 hvd
      have hn60 : n ≤ 60 := by rw [HL.out]; exact bytesB_le hb
      have hn12 : n' ≤ 12 := by rw [HL'.out]; exact hs12
      have hn16 : n2 ≤ 16 := by have := HG.out; omega
      obtain ⟨a, rfl⟩ := Int.eq_ofNat_of_zero_le hq.1
      have hK := start_ok hvr
      obtain ⟨N, rfl⟩ := Int.eq_ofNat_of_zero_le (show 0 ≤ N by omega)
      obtain ⟨T, hT⟩ : ∃ T, someRs D S z N p a R = T := ⟨_, rfl⟩
      have HO : Hid (someOut D p S a R z N = rsOut D S z T) := by show _ = _; rw [← hT]; simp [someOut, hg, hi0]
      have hinv := someRs_inv (k := N) hz.1 hvd hK (by omega)
      rw [hT] at hinv
      have HI := Lib.hid (RsOk.v hinv)
      have HVD := Lib.hid hvd
      have HT := Lib.hid hT
      clear hg hvr hb hs12 hah hT hvd hinv
      have x0 := (X1.out.2 0 _ rfl).1; have x1 := (X1.out.2 1 _ rfl).1; have x2 := (X1.out.2 2 _ rfl).1; have x3 := (X1.out.2 3 _ rfl).1; have x4 := (X1.out.2 4 _ rfl).1; have x5 := (X1.out.2 5 _ rfl).1
      go_wp2_with (first | (go_at_call 38; refine (isIn_any).mono ?_; rintro e w' ⟨rfl, rfl⟩) | fail)
      refine (lookaheadOf_any I1.out I2.out G2.out (by omega) (by omega) (by omega) (by omega) (by omega) (by omega) (by unfold okInt; omega) (by unfold okInt; omega)).mono ?_
      rintro e w2 ⟨b, A3, n3, c3, A3', n3', c3', A4, n4, c4, rfl, ⟨hc3, hc3', hc4⟩, hb2, hbl, hx, h1, h2, h3, ha, ha1, ha2⟩
      have hbw := hx.lt
      have s2 := hb2.size
      have HLK : Hid (LookAt w1.heap.size b A3 n3 c3 A3' n3' c3' D S z p a A4 n4 c4 w1.heap.size b R w2) := ⟨hx, ⟨h1, h2, h3⟩, .inr (Nat.le_refl _), ⟨hbl, Nat.le_refl _, by omega⟩, ⟨hc3, hc4⟩, ha1, ha2⟩
      have HA := Lib.hid ha
      have R2 := Lib.hid (R1.out.below hb2 (by omega))
      have E2 := Lib.hid (below_step hb2 E1.out (by omega))
      have HKK := Lib.hid hK
      clear hb2 hx h1 h2 h3 ha ha1 ha2 R1 E1 I1 I2 G2 X1 hK
      clear x0 x1 x2 x3 x4 x5
      have hcall := some_q (k := N) HLK.out HVD.out (by omega) hz.1 (by omega) (by omega)
      rw [HT.out] at hcall
      have HC := Lib.hid hcall
      clear hcall
      go_wp2_with fail
      refine HC.out.mono ?_
      rintro e w3 ⟨A6, n6, c6, A5, n5, c5, M', C', rfl, hc6, ht, hlk, hi6, hap, hap1, hap2⟩
      have s3 := ht.size
      have R3 := Lib.hid (R2.out.turn ht (by omega) (by omega))
      have E3 : Hid (Below w.heap.size w w3) := E2.out.trans (ht.below (by omega) (by omega))
      have HLK3 := Lib.hid hlk
      have HI6 := Lib.hid hi6
      have HP := Lib.hid (And.intro hap (And.intro hap1 hap2))
      clear ht hlk hi6 hap hap1 hap2 R2 E2 HLK HC
      go_wp2_with fail
      refine (reader_any HLK3.out.1).mono ?_
      rintro e w4 ⟨rfl, hb4⟩
      have s4 := hb4.size
      have HLK4 := Lib.hid (HLK3.out.below hb4 (Nat.le_refl _))
      have HI7 := Lib.hid (HI6.out.below hb4 (by omega))
      have R4 := Lib.hid (R3.out.below hb4 (by omega))
      have E4 := Lib.hid (below_step hb4 E3.out (by omega))
      clear hb4 HLK3 HI6 R3 E3
      have r0 := (R4.out.2 0 _ rfl).1; have r1 := (R4.out.2 1 _ rfl).1; have r2 := (R4.out.2 2 _ rfl).1; have r3 := (R4.out.2 3 _ rfl).1; have r4 := (R4.out.2 4 _ rfl).1; have r5 := (R4.out.2 5 _ rfl).1
      have g0 := (R4.out.2 0 _ rfl).2; have g1 := (R4.out.2 1 _ rfl).2; have g2 := (R4.out.2 2 _ rfl).2; have g3 := (R4.out.2 3 _ rfl).2; have g4 := (R4.out.2 4 _ rfl).2; have g5 := (R4.out.2 5 _ rfl).2
      go_wp2
      refine bodyPost_ret (v := .tuple #[.agg #[.slice (A3) n3 c3, .int .i64 (T.p), .slice (A3') n3' c3', .int .i64 ((T.a : Int)), .slice (A5) n5 c5, .int .i64 (z)], .slice A6 n6 c6, .int .i64 T.st]) (by simp [results, Try.results10, go_sem, r0, r1, r2, r3, r4, r5, g0, g1, g2, g3, g4, g5]) rfl ?_
      rw [HO.out]
      exact rs_post E4.out (by omega) HLK4.out (HI7.out.more (Nat.le_refl _) (by omega)) HP.out.1 HP.out.2.1 HP.out.2.2 HA.out HI.out hz hc3' hc6
set_option maxHeartbeats 4000000 in
theorem ReadFull_any {A A' A2 : Option Addr} {n c n' c' n2 c2 : Nat} {D S R : List Int} {p q z N : Int} {w : World} {L L' B B' M C : Nat} (h : Ints w L B A n D) (h' : Ints w L' B' A' n' S) (g : Ints w M C A2 n2 R) (hB : B ≤ w.heap.size) (hB' : B' ≤ w.heap.size) (hC : C ≤ w.heap.size) (hnc : n ≤ c) :
    Calls Try.prog 18 #[.agg #[.slice (A) n c, .int .i64 (p), .slice (A') n' c', .int .i64 (q), .slice (A2) n2 c2, .int .i64 (z)], .int .i64 N] w (Post3R (fullOut D p S q R z N) w) := by
  have HG := Lib.hid g.len
  have HL := Lib.hid h.len
  have HL' := Lib.hid h'.len
  have H1 : Hid (Ints ((w.alloc (.cells #[.slice (A) n c, .int .i64 (p), .slice (A') n' c', .int .i64 (q), .slice (A2) n2 c2, .int .i64 (z)] 27)).alloc (.cells #[.slice none 0 0, .int .i64 0, .slice none 0 0, .int .i64 0, .slice none 0 0, .int .i64 0] 27)) L B A n D) := (h.alloc hB _).alloc (by first | omega | (simp; omega) | (simp; done)) _
  have H2 : Hid (Ints ((w.alloc (.cells #[.slice (A) n c, .int .i64 (p), .slice (A') n' c', .int .i64 (q), .slice (A2) n2 c2, .int .i64 (z)] 27)).alloc (.cells #[.slice none 0 0, .int .i64 0, .slice none 0 0, .int .i64 0, .slice none 0 0, .int .i64 0] 27)) L' B' A' n' S) := (h'.alloc hB' _).alloc (by first | omega | (simp; omega) | (simp; done)) _
  have G1 : Hid (Ints ((w.alloc (.cells #[.slice (A) n c, .int .i64 (p), .slice (A') n' c', .int .i64 (q), .slice (A2) n2 c2, .int .i64 (z)] 27)).alloc (.cells #[.slice none 0 0, .int .i64 0, .slice none 0 0, .int .i64 0, .slice none 0 0, .int .i64 0] 27)) M C A2 n2 R) := (g.alloc hC _).alloc (by first | omega | (simp; omega) | (simp; done)) _
  have X0 : Hid (Box ((w.alloc (.cells #[.slice (A) n c, .int .i64 (p), .slice (A') n' c', .int .i64 (q), .slice (A2) n2 c2, .int .i64 (z)] 27)).alloc (.cells #[.slice none 0 0, .int .i64 0, .slice none 0 0, .int .i64 0, .slice none 0 0, .int .i64 0] 27)) w.heap.size [.slice (A) n c, .int .i64 (p), .slice (A') n' c', .int .i64 (q), .slice (A2) n2 c2, .int .i64 (z)]) := (Box.new w 27 [.slice (A) n c, .int .i64 (p), .slice (A') n' c', .int .i64 (q), .slice (A2) n2 c2, .int .i64 (z)]).alloc _
  have R0 : Hid (Box ((w.alloc (.cells #[.slice (A) n c, .int .i64 (p), .slice (A') n' c', .int .i64 (q), .slice (A2) n2 c2, .int .i64 (z)] 27)).alloc (.cells #[.slice none 0 0, .int .i64 0, .slice none 0 0, .int .i64 0, .slice none 0 0, .int .i64 0] 27)) (w.heap.size + 1) [.slice none 0 0, .int .i64 0, .slice none 0 0, .int .i64 0, .slice none 0 0, .int .i64 0]) := by
    have hx := Box.new (w.alloc (.cells #[.slice (A) n c, .int .i64 (p), .slice (A') n' c', .int .i64 (q), .slice (A2) n2 c2, .int .i64 (z)] 27)) 27 [.slice none 0 0, .int .i64 0, .slice none 0 0, .int .i64 0, .slice none 0 0, .int .i64 0]
    rw [World.size_alloc] at hx
    exact hx
  have E0 : Hid (Below w.heap.size w ((w.alloc (.cells #[.slice (A) n c, .int .i64 (p), .slice (A') n' c', .int .i64 (q), .slice (A2) n2 c2, .int .i64 (z)] 27)).alloc (.cells #[.slice none 0 0, .int .i64 0, .slice none 0 0, .int .i64 0, .slice none 0 0, .int .i64 0] 27))) := (by go_grown : Below w.heap.size w _)
  have s0 : (((w.alloc (.cells #[.slice (A) n c, .int .i64 (p), .slice (A') n' c', .int .i64 (q), .slice (A2) n2 c2, .int .i64 (z)] 27)).alloc (.cells #[.slice none 0 0, .int .i64 0, .slice none 0 0, .int .i64 0, .slice none 0 0, .int .i64 0] 27))).heap.size = w.heap.size + 2 := by simp
  clear h h' g
  go_enter Try.func18, Try.ntmps18
  go_wp2_with fail
  generalize ((w.alloc (.cells #[.slice (A) n c, .int .i64 (p), .slice (A') n' c', .int .i64 (q), .slice (A2) n2 c2, .int .i64 (z)] 27)).alloc (.cells #[.slice none 0 0, .int .i64 0, .slice none 0 0, .int .i64 0, .slice none 0 0, .int .i64 0] 27)) = w0 at *
  refine (canRead_any H1.out H2.out G1.out (by omega) (by omega) (by omega) hnc).mono ?_
  rintro e w1 ⟨rfl, hb1⟩
  have s1 := hb1.size
  have E1 := Lib.hid (below_step hb1 E0.out (by omega))
  have X1 := Lib.hid (X0.out.below hb1 (by omega))
  have R1 := Lib.hid (R0.out.below hb1 (by omega))
  have I1 := Lib.hid (H1.out.below hb1 (by omega))
  have I2 := Lib.hid (H2.out.below hb1 (by omega))
  have G2 := Lib.hid (G1.out.below hb1 (by omega))
  clear hb1 H1 H2 G1 X0 R0 E0
  cases hg : goodR D p S q R z
  · have HO : Hid (fullOut D p S q R z N = (Rv.zero, [], 5)) := by show _ = _; simp [fullOut, hg]
    clear hg
    have r0 := (R1.out.2 0 _ rfl).1; have r1 := (R1.out.2 1 _ rfl).1; have r2 := (R1.out.2 2 _ rfl).1; have r3 := (R1.out.2 3 _ rfl).1; have r4 := (R1.out.2 4 _ rfl).1; have r5 := (R1.out.2 5 _ rfl).1
    have g0 := (R1.out.2 0 _ rfl).2; have g1 := (R1.out.2 1 _ rfl).2; have g2 := (R1.out.2 2 _ rfl).2; have g3 := (R1.out.2 3 _ rfl).2; have g4 := (R1.out.2 4 _ rfl).2; have g5 := (R1.out.2 5 _ rfl).2
    go_wp2
    refine bodyPost_ret (v := .tuple #[.agg #[.slice none 0 0, .int .i64 0, .slice none 0 0, .int .i64 0, .slice none 0 0, .int .i64 0], .slice none 0 0, .int .i64 5]) (by simp [results, Try.results18, go_sem, r0, r1, r2, r3, r4, r5, g0, g1, g2, g3, g4, g5]) rfl ?_
    rw [HO.out]
    refine Post3R.zero ?_
    (repeat (with_reducible refine below_set ?_ (by omega) _))
    exact E1.out
  · obtain ⟨hvr, hq9⟩ := goodR_iff.1 hg
    cases hi0 : inB N 0 60
    · have HO : Hid (fullOut D p S q R z N = (Rv.zero, [], 5)) := by show _ = _; simp [fullOut, hg, hi0]
      clear hg hvr
      have r0 := (R1.out.2 0 _ rfl).1; have r1 := (R1.out.2 1 _ rfl).1; have r2 := (R1.out.2 2 _ rfl).1; have r3 := (R1.out.2 3 _ rfl).1; have r4 := (R1.out.2 4 _ rfl).1; have r5 := (R1.out.2 5 _ rfl).1
      have g0 := (R1.out.2 0 _ rfl).2; have g1 := (R1.out.2 1 _ rfl).2; have g2 := (R1.out.2 2 _ rfl).2; have g3 := (R1.out.2 3 _ rfl).2; have g4 := (R1.out.2 4 _ rfl).2; have g5 := (R1.out.2 5 _ rfl).2
      go_wp2_with (go_at_call 38; refine (isIn_any).mono ?_; rintro e w' ⟨rfl, rfl⟩)
      refine bodyPost_ret (v := .tuple #[.agg #[.slice none 0 0, .int .i64 0, .slice none 0 0, .int .i64 0, .slice none 0 0, .int .i64 0], .slice none 0 0, .int .i64 5]) (by simp [results, Try.results18, go_sem, r0, r1, r2, r3, r4, r5, g0, g1, g2, g3, g4, g5]) rfl ?_
      rw [HO.out]
      refine Post3R.zero ?_
      (repeat (with_reducible refine below_set ?_ (by omega) _))
      exact E1.out
    · have hj0 := inB_iff.1 hi0
      obtain ⟨hvd, hz, hRz, hah⟩ := validR_iff.1 hvr
      obtain ⟨hb, hs12, _, hp, hq⟩ := validD_iff.1 hvd
      have hn60 : n ≤ 60 := by rw [HL.out]; exact bytesB_le hb
      have hn12 : n' ≤ 12 := by rw [HL'.out]; exact hs12
      have hn16 : n2 ≤ 16 := by have := HG.out; omega
      obtain ⟨a, rfl⟩ := Int.eq_ofNat_of_zero_le hq.1
      have hK := start_ok hvr
      obtain ⟨N, rfl⟩ := Int.eq_ofNat_of_zero_le (show 0 ≤ N by omega)
      obtain ⟨T, hT⟩ : ∃ T, fullGo D S z N 62 p a R [] = T := ⟨_, rfl⟩
      have HO : Hid (fullOut D p S a R z N = rsOut D S z T) := by show _ = _; rw [← hT]; simp [fullOut, hg, hi0]
      have hinv := fullGo_inv (N := N) hz.1 62 p a R [] hvd (by simpa using hK) (by simp; omega)
      rw [hT] at hinv
      have HI := Lib.hid (RsOk.v hinv)
      have HVD := Lib.hid hvd
      have HT := Lib.hid hT
      clear hg hvr hb hs12 hah hT hvd hinv
      have x0 := (X1.out.2 0 _ rfl).1; have x1 := (X1.out.2 1 _ rfl).1; have x2 := (X1.out.2 2 _ rfl).1; have x3 := (X1.out.2 3 _ rfl).1; have x4 := (X1.out.2 4 _ rfl).1; have x5 := (X1.out.2 5 _ rfl).1
      go_wp2_with (first | (go_at_call 38; refine (isIn_any).mono ?_; rintro e w' ⟨rfl, rfl⟩) | fail)
      refine (lookaheadOf_any I1.out I2.out G2.out (by omega) (by omega) (by omega) (by omega) (by omega) (by omega) (by unfold okInt; omega) (by unfold okInt; omega)).mono ?_
      rintro e w2 ⟨b, A3, n3, c3, A3', n3', c3', A4, n4, c4, rfl, ⟨hc3, hc3', hc4⟩, hb2, hbl, hx, h1, h2, h3, ha, ha1, ha2⟩
      have hbw := hx.lt
      have s2 := hb2.size
      have HLK : Hid (LookAt w1.heap.size b A3 n3 c3 A3' n3' c3' D S z p a A4 n4 c4 w1.heap.size b R w2) := ⟨hx, ⟨h1, h2, h3⟩, .inr (Nat.le_refl _), ⟨hbl, Nat.le_refl _, by omega⟩, ⟨hc3, hc4⟩, ha1, ha2⟩
      have HA := Lib.hid ha
      have R2 := Lib.hid (R1.out.below hb2 (by omega))
      have E2 := Lib.hid (below_step hb2 E1.out (by omega))
      have HKK := Lib.hid hK
      clear hb2 hx h1 h2 h3 ha ha1 ha2 R1 E1 I1 I2 G2 X1 hK
      clear x0 x1 x2 x3 x4 x5
      have hcall := (full_any (N := N) HLK.out HVD.out (by omega) hz.1 (by omega) HKK.out (by omega)).mono (fun e w' => WorkPost.q HLK.out)
      rw [HT.out] at hcall
      have HC := Lib.hid hcall
      clear hcall
      go_wp2_with fail
      refine HC.out.mono ?_
      rintro e w3 ⟨A6, n6, c6, A5, n5, c5, M', C', rfl, hc6, ht, hlk, hi6, hap, hap1, hap2⟩
      have s3 := ht.size
      have R3 := Lib.hid (R2.out.turn ht (by omega) (by omega))
      have E3 : Hid (Below w.heap.size w w3) := E2.out.trans (ht.below (by omega) (by omega))
      have HLK3 := Lib.hid hlk
      have HI6 := Lib.hid hi6
      have HP := Lib.hid (And.intro hap (And.intro hap1 hap2))
      clear ht hlk hi6 hap hap1 hap2 R2 E2 HLK HC
      go_wp2_with fail
      refine (reader_any HLK3.out.1).mono ?_
      rintro e w4 ⟨rfl, hb4⟩
      have s4 := hb4.size
      have HLK4 := Lib.hid (HLK3.out.below hb4 (Nat.le_refl _))
      have HI7 := Lib.hid (HI6.out.below hb4 (by omega))
      have R4 := Lib.hid (R3.out.below hb4 (by omega))
      have E4 := Lib.hid (below_step hb4 E3.out (by omega))
      clear hb4 HLK3 HI6 R3 E3
      have r0 := (R4.out.2 0 _ rfl).1; have r1 := (R4.out.2 1 _ rfl).1; have r2 := (R4.out.2 2 _ rfl).1; have r3 := (R4.out.2 3 _ rfl).1; have r4 := (R4.out.2 4 _ rfl).1; have r5 := (R4.out.2 5 _ rfl).1
      have g0 := (R4.out.2 0 _ rfl).2; have g1 := (R4.out.2 1 _ rfl).2; have g2 := (R4.out.2 2 _ rfl).2; have g3 := (R4.out.2 3 _ rfl).2; have g4 := (R4.out.2 4 _ rfl).2; have g5 := (R4.out.2 5 _ rfl).2
      go_wp2
      refine bodyPost_ret (v := .tuple #[.agg #[.slice (A3) n3 c3, .int .i64 (T.p), .slice (A3') n3' c3', .int .i64 ((T.a : Int)), .slice (A5) n5 c5, .int .i64 (z)], .slice A6 n6 c6, .int .i64 T.st]) (by simp [results, Try.results18, go_sem, r0, r1, r2, r3, r4, r5, g0, g1, g2, g3, g4, g5]) rfl ?_
      rw [HO.out]
      exact rs_post E4.out (by omega) HLK4.out (HI7.out.more (Nat.le_refl _) (by omega)) HP.out.1 HP.out.2.1 HP.out.2.2 HA.out HI.out hz hc3' hc6
set_option maxHeartbeats 4000000 in
theorem ReadRest_any {A A' A2 : Option Addr} {n c n' c' n2 c2 : Nat} {D S R : List Int} {p q z : Int} {w : World} {L L' B B' M C : Nat} (h : Ints w L B A n D) (h' : Ints w L' B' A' n' S) (g : Ints w M C A2 n2 R) (hB : B ≤ w.heap.size) (hB' : B' ≤ w.heap.size) (hC : C ≤ w.heap.size) (hnc : n ≤ c) :
    Calls Try.prog 33 #[.agg #[.slice (A) n c, .int .i64 (p), .slice (A') n' c', .int .i64 (q), .slice (A2) n2 c2, .int .i64 (z)]] w (Post3R (restOut D p S q R z) w) := by
  have HG := Lib.hid g.len
  have HL := Lib.hid h.len
  have HL' := Lib.hid h'.len
  have H1 : Hid (Ints ((w.alloc (.cells #[.slice (A) n c, .int .i64 (p), .slice (A') n' c', .int .i64 (q), .slice (A2) n2 c2, .int .i64 (z)] 27)).alloc (.cells #[.slice none 0 0, .int .i64 0, .slice none 0 0, .int .i64 0, .slice none 0 0, .int .i64 0] 27)) L B A n D) := (h.alloc hB _).alloc (by first | omega | (simp; omega) | (simp; done)) _
  have H2 : Hid (Ints ((w.alloc (.cells #[.slice (A) n c, .int .i64 (p), .slice (A') n' c', .int .i64 (q), .slice (A2) n2 c2, .int .i64 (z)] 27)).alloc (.cells #[.slice none 0 0, .int .i64 0, .slice none 0 0, .int .i64 0, .slice none 0 0, .int .i64 0] 27)) L' B' A' n' S) := (h'.alloc hB' _).alloc (by first | omega | (simp; omega) | (simp; done)) _
  have G1 : Hid (Ints ((w.alloc (.cells #[.slice (A) n c, .int .i64 (p), .slice (A') n' c', .int .i64 (q), .slice (A2) n2 c2, .int .i64 (z)] 27)).alloc (.cells #[.slice none 0 0, .int .i64 0, .slice none 0 0, .int .i64 0, .slice none 0 0, .int .i64 0] 27)) M C A2 n2 R) := (g.alloc hC _).alloc (by first | omega | (simp; omega) | (simp; done)) _
  have X0 : Hid (Box ((w.alloc (.cells #[.slice (A) n c, .int .i64 (p), .slice (A') n' c', .int .i64 (q), .slice (A2) n2 c2, .int .i64 (z)] 27)).alloc (.cells #[.slice none 0 0, .int .i64 0, .slice none 0 0, .int .i64 0, .slice none 0 0, .int .i64 0] 27)) w.heap.size [.slice (A) n c, .int .i64 (p), .slice (A') n' c', .int .i64 (q), .slice (A2) n2 c2, .int .i64 (z)]) := (Box.new w 27 [.slice (A) n c, .int .i64 (p), .slice (A') n' c', .int .i64 (q), .slice (A2) n2 c2, .int .i64 (z)]).alloc _
  have R0 : Hid (Box ((w.alloc (.cells #[.slice (A) n c, .int .i64 (p), .slice (A') n' c', .int .i64 (q), .slice (A2) n2 c2, .int .i64 (z)] 27)).alloc (.cells #[.slice none 0 0, .int .i64 0, .slice none 0 0, .int .i64 0, .slice none 0 0, .int .i64 0] 27)) (w.heap.size + 1) [.slice none 0 0, .int .i64 0, .slice none 0 0, .int .i64 0, .slice none 0 0, .int .i64 0]) := by
    have hx := Box.new (w.alloc (.cells #[.slice (A) n c, .int .i64 (p), .slice (A') n' c', .int .i64 (q), .slice (A2) n2 c2, .int .i64 (z)] 27)) 27 [.slice none 0 0, .int .i64 0, .slice none 0 0, .int .i64 0, .slice none 0 0, .int .i64 0]
    rw [World.size_alloc] at hx
    exact hx
  have E0 : Hid (Below w.heap.size w ((w.alloc (.cells #[.slice (A) n c, .int .i64 (p), .slice (A') n' c', .int .i64 (q), .slice (A2) n2 c2, .int .i64 (z)] 27)).alloc (.cells #[.slice none 0 0, .int .i64 0, .slice none 0 0, .int .i64 0, .slice none 0 0, .int .i64 0] 27))) := (by go_grown : Below w.heap.size w _)
  have s0 : (((w.alloc (.cells #[.slice (A) n c, .int .i64 (p), .slice (A') n' c', .int .i64 (q), .slice (A2) n2 c2, .int .i64 (z)] 27)).alloc (.cells #[.slice none 0 0, .int .i64 0, .slice none 0 0, .int .i64 0, .slice none 0 0, .int .i64 0] 27))).heap.size = w.heap.size + 2 := by simp
  clear h h' g
  go_enter Try.func33, Try.ntmps33
  go_wp2_with fail
  generalize ((w.alloc (.cells #[.slice (A) n c, .int .i64 (p), .slice (A') n' c', .int .i64 (q), .slice (A2) n2 c2, .int .i64 (z)] 27)).alloc (.cells #[.slice none 0 0, .int .i64 0, .slice none 0 0, .int .i64 0, .slice none 0 0, .int .i64 0] 27)) = w0 at *
  refine (canRead_any H1.out H2.out G1.out (by omega) (by omega) (by omega) hnc).mono ?_
  rintro e w1 ⟨rfl, hb1⟩
  have s1 := hb1.size
  have E1 := Lib.hid (below_step hb1 E0.out (by omega))
  have X1 := Lib.hid (X0.out.below hb1 (by omega))
  have R1 := Lib.hid (R0.out.below hb1 (by omega))
  have I1 := Lib.hid (H1.out.below hb1 (by omega))
  have I2 := Lib.hid (H2.out.below hb1 (by omega))
  have G2 := Lib.hid (G1.out.below hb1 (by omega))
  clear hb1 H1 H2 G1 X0 R0 E0
  cases hg : goodR D p S q R z
  · have HO : Hid (restOut D p S q R z = (Rv.zero, [], 5)) := by show _ = _; simp [restOut, hg]
    clear hg
    have r0 := (R1.out.2 0 _ rfl).1; have r1 := (R1.out.2 1 _ rfl).1; have r2 := (R1.out.2 2 _ rfl).1; have r3 := (R1.out.2 3 _ rfl).1; have r4 := (R1.out.2 4 _ rfl).1; have r5 := (R1.out.2 5 _ rfl).1
    have g0 := (R1.out.2 0 _ rfl).2; have g1 := (R1.out.2 1 _ rfl).2; have g2 := (R1.out.2 2 _ rfl).2; have g3 := (R1.out.2 3 _ rfl).2; have g4 := (R1.out.2 4 _ rfl).2; have g5 := (R1.out.2 5 _ rfl).2
    go_wp2
    refine bodyPost_ret (v := .tuple #[.agg #[.slice none 0 0, .int .i64 0, .slice none 0 0, .int .i64 0, .slice none 0 0, .int .i64 0], .slice none 0 0, .int .i64 5]) (by simp [results, Try.results33, go_sem, r0, r1, r2, r3, r4, r5, g0, g1, g2, g3, g4, g5]) rfl ?_
    rw [HO.out]
    refine Post3R.zero ?_
    (repeat (with_reducible refine below_set ?_ (by omega) _))
    exact E1.out
  · obtain ⟨hvr, hq9⟩ := goodR_iff.1 hg
    obtain ⟨hvd, hz, hRz, hah⟩ := validR_iff.1 hvr
    obtain ⟨hb, hs12, _, hp, hq⟩ := validD_iff.1 hvd
    have hn60 : n ≤ 60 := by rw [HL.out]; exact bytesB_le hb
    have hn12 : n' ≤ 12 := by rw [HL'.out]; exact hs12
    have hn16 : n2 ≤ 16 := by have := HG.out; omega
    obtain ⟨a, rfl⟩ := Int.eq_ofNat_of_zero_le hq.1
    have hK := start_ok hvr
    obtain ⟨T, hT⟩ : ∃ T, fullGo D S z 61 62 p a R [] = T := ⟨_, rfl⟩
    have HO : Hid (restOut D p S a R z = rsOut D S z T) := by show _ = _; rw [← hT]; simp [restOut, hg]
    have hinv := fullGo_inv (N := 61) hz.1 62 p a R [] hvd (by simpa using hK) (by simp; omega)
    rw [hT] at hinv
    have HI := Lib.hid (RsOk.v hinv)
    have HVD := Lib.hid hvd
    have HT := Lib.hid hT
    clear hg hvr hb hs12 hah hT hvd hinv
    have x0 := (X1.out.2 0 _ rfl).1; have x1 := (X1.out.2 1 _ rfl).1; have x2 := (X1.out.2 2 _ rfl).1; have x3 := (X1.out.2 3 _ rfl).1; have x4 := (X1.out.2 4 _ rfl).1; have x5 := (X1.out.2 5 _ rfl).1
    go_wp2_with (first | (go_at_call 38; refine (isIn_any).mono ?_; rintro e w' ⟨rfl, rfl⟩) | fail)
    refine (lookaheadOf_any I1.out I2.out G2.out (by omega) (by omega) (by omega) (by omega) (by omega) (by omega) (by unfold okInt; omega) (by unfold okInt; omega)).mono ?_
    rintro e w2 ⟨b, A3, n3, c3, A3', n3', c3', A4, n4, c4, rfl, ⟨hc3, hc3', hc4⟩, hb2, hbl, hx, h1, h2, h3, ha, ha1, ha2⟩
    have hbw := hx.lt
    have s2 := hb2.size
    have HLK : Hid (LookAt w1.heap.size b A3 n3 c3 A3' n3' c3' D S z p a A4 n4 c4 w1.heap.size b R w2) := ⟨hx, ⟨h1, h2, h3⟩, .inr (Nat.le_refl _), ⟨hbl, Nat.le_refl _, by omega⟩, ⟨hc3, hc4⟩, ha1, ha2⟩
    have HA := Lib.hid ha
    have R2 := Lib.hid (R1.out.below hb2 (by omega))
    have E2 := Lib.hid (below_step hb2 E1.out (by omega))
    have HKK := Lib.hid hK
    clear hb2 hx h1 h2 h3 ha ha1 ha2 R1 E1 I1 I2 G2 X1 hK
    clear x0 x1 x2 x3 x4 x5
    have hcall := (rest_any HLK.out HVD.out (by omega) hz.1 (by omega) HKK.out).mono (fun e w' => WorkPost.q HLK.out)
    rw [HT.out] at hcall
    have HC := Lib.hid hcall
    clear hcall
    go_wp2_with fail
    refine HC.out.mono ?_
    rintro e w3 ⟨A6, n6, c6, A5, n5, c5, M', C', rfl, hc6, ht, hlk, hi6, hap, hap1, hap2⟩
    have s3 := ht.size
    have R3 := Lib.hid (R2.out.turn ht (by omega) (by omega))
    have E3 : Hid (Below w.heap.size w w3) := E2.out.trans (ht.below (by omega) (by omega))
    have HLK3 := Lib.hid hlk
    have HI6 := Lib.hid hi6
    have HP := Lib.hid (And.intro hap (And.intro hap1 hap2))
    clear ht hlk hi6 hap hap1 hap2 R2 E2 HLK HC
    go_wp2_with fail
    refine (reader_any HLK3.out.1).mono ?_
    rintro e w4 ⟨rfl, hb4⟩
    have s4 := hb4.size
    have HLK4 := Lib.hid (HLK3.out.below hb4 (Nat.le_refl _))
    have HI7 := Lib.hid (HI6.out.below hb4 (by omega))
    have R4 := Lib.hid (R3.out.below hb4 (by omega))
    have E4 := Lib.hid (below_step hb4 E3.out (by omega))
    clear hb4 HLK3 HI6 R3 E3
    have r0 := (R4.out.2 0 _ rfl).1; have r1 := (R4.out.2 1 _ rfl).1; have r2 := (R4.out.2 2 _ rfl).1; have r3 := (R4.out.2 3 _ rfl).1; have r4 := (R4.out.2 4 _ rfl).1; have r5 := (R4.out.2 5 _ rfl).1
    have g0 := (R4.out.2 0 _ rfl).2; have g1 := (R4.out.2 1 _ rfl).2; have g2 := (R4.out.2 2 _ rfl).2; have g3 := (R4.out.2 3 _ rfl).2; have g4 := (R4.out.2 4 _ rfl).2; have g5 := (R4.out.2 5 _ rfl).2
    go_wp2
    refine bodyPost_ret (v := .tuple #[.agg #[.slice (A3) n3 c3, .int .i64 (T.p), .slice (A3') n3' c3', .int .i64 ((T.a : Int)), .slice (A5) n5 c5, .int .i64 (z)], .slice A6 n6 c6, .int .i64 T.st]) (by simp [results, Try.results33, go_sem, r0, r1, r2, r3, r4, r5, g0, g1, g2, g3, g4, g5]) rfl ?_
    rw [HO.out]
    exact rs_post E4.out (by omega) HLK4.out (HI7.out.more (Nat.le_refl _) (by omega)) HP.out.1 HP.out.2.1 HP.out.2.2 HA.out HI.out hz hc3' hc6
set_option maxHeartbeats 4000000 in
theorem ReadUntil_any {A A' A2 : Option Addr} {n c n' c' n2 c2 : Nat} {D S R : List Int} {p q z bb N : Int} {w : World} {L L' B B' M C : Nat} (h : Ints w L B A n D) (h' : Ints w L' B' A' n' S) (g : Ints w M C A2 n2 R) (hB : B ≤ w.heap.size) (hB' : B' ≤ w.heap.size) (hC : C ≤ w.heap.size) (hnc : n ≤ c) :
    Calls Try.prog 23 #[.agg #[.slice (A) n c, .int .i64 (p), .slice (A') n' c', .int .i64 (q), .slice (A2) n2 c2, .int .i64 (z)], .int .i64 bb, .int .i64 N] w (Post3R (untilOut D p S q R z bb N) w) := by
  have HG := Lib.hid g.len
  have HL := Lib.hid h.len
  have HL' := Lib.hid h'.len
  have H1 : Hid (Ints ((w.alloc (.cells #[.slice (A) n c, .int .i64 (p), .slice (A') n' c', .int .i64 (q), .slice (A2) n2 c2, .int .i64 (z)] 27)).alloc (.cells #[.slice none 0 0, .int .i64 0, .slice none 0 0, .int .i64 0, .slice none 0 0, .int .i64 0] 27)) L B A n D) := (h.alloc hB _).alloc (by first | omega | (simp; omega) | (simp; done)) _
  have H2 : Hid (Ints ((w.alloc (.cells #[.slice (A) n c, .int .i64 (p), .slice (A') n' c', .int .i64 (q), .slice (A2) n2 c2, .int .i64 (z)] 27)).alloc (.cells #[.slice none 0 0, .int .i64 0, .slice none 0 0, .int .i64 0, .slice none 0 0, .int .i64 0] 27)) L' B' A' n' S) := (h'.alloc hB' _).alloc (by first | omega | (simp; omega) | (simp; done)) _
  have G1 : Hid (Ints ((w.alloc (.cells #[.slice (A) n c, .int .i64 (p), .slice (A') n' c', .int .i64 (q), .slice (A2) n2 c2, .int .i64 (z)] 27)).alloc (.cells #[.slice none 0 0, .int .i64 0, .slice none 0 0, .int .i64 0, .slice none 0 0, .int .i64 0] 27)) M C A2 n2 R) := (g.alloc hC _).alloc (by first | omega | (simp; omega) | (simp; done)) _
  have X0 : Hid (Box ((w.alloc (.cells #[.slice (A) n c, .int .i64 (p), .slice (A') n' c', .int .i64 (q), .slice (A2) n2 c2, .int .i64 (z)] 27)).alloc (.cells #[.slice none 0 0, .int .i64 0, .slice none 0 0, .int .i64 0, .slice none 0 0, .int .i64 0] 27)) w.heap.size [.slice (A) n c, .int .i64 (p), .slice (A') n' c', .int .i64 (q), .slice (A2) n2 c2, .int .i64 (z)]) := (Box.new w 27 [.slice (A) n c, .int .i64 (p), .slice (A') n' c', .int .i64 (q), .slice (A2) n2 c2, .int .i64 (z)]).alloc _
  have R0 : Hid (Box ((w.alloc (.cells #[.slice (A) n c, .int .i64 (p), .slice (A') n' c', .int .i64 (q), .slice (A2) n2 c2, .int .i64 (z)] 27)).alloc (.cells #[.slice none 0 0, .int .i64 0, .slice none 0 0, .int .i64 0, .slice none 0 0, .int .i64 0] 27)) (w.heap.size + 1) [.slice none 0 0, .int .i64 0, .slice none 0 0, .int .i64 0, .slice none 0 0, .int .i64 0]) := by
    have hx := Box.new (w.alloc (.cells #[.slice (A) n c, .int .i64 (p), .slice (A') n' c', .int .i64 (q), .slice (A2) n2 c2, .int .i64 (z)] 27)) 27 [.slice none 0 0, .int .i64 0, .slice none 0 0, .int .i64 0, .slice none 0 0, .int .i64 0]
    rw [World.size_alloc] at hx
    exact hx
  have E0 : Hid (Below w.heap.size w ((w.alloc (.cells #[.slice (A) n c, .int .i64 (p), .slice (A') n' c', .int .i64 (q), .slice (A2) n2 c2, .int .i64 (z)] 27)).alloc (.cells #[.slice none 0 0, .int .i64 0, .slice none 0 0, .int .i64 0, .slice none 0 0, .int .i64 0] 27))) := (by go_grown : Below w.heap.size w _)
  have s0 : (((w.alloc (.cells #[.slice (A) n c, .int .i64 (p), .slice (A') n' c', .int .i64 (q), .slice (A2) n2 c2, .int .i64 (z)] 27)).alloc (.cells #[.slice none 0 0, .int .i64 0, .slice none 0 0, .int .i64 0, .slice none 0 0, .int .i64 0] 27))).heap.size = w.heap.size + 2 := by simp
  clear h h' g
  go_enter Try.func23, Try.ntmps23
  go_wp2_with fail
  generalize ((w.alloc (.cells #[.slice (A) n c, .int .i64 (p), .slice (A') n' c', .int .i64 (q), .slice (A2) n2 c2, .int .i64 (z)] 27)).alloc (.cells #[.slice none 0 0, .int .i64 0, .slice none 0 0, .int .i64 0, .slice none 0 0, .int .i64 0] 27)) = w0 at *
  refine (canRead_any H1.out H2.out G1.out (by omega) (by omega) (by omega) hnc).mono ?_
  rintro e w1 ⟨rfl, hb1⟩
  have s1 := hb1.size
  have E1 := Lib.hid (below_step hb1 E0.out (by omega))
  have X1 := Lib.hid (X0.out.below hb1 (by omega))
  have R1 := Lib.hid (R0.out.below hb1 (by omega))
  have I1 := Lib.hid (H1.out.below hb1 (by omega))
  have I2 := Lib.hid (H2.out.below hb1 (by omega))
  have G2 := Lib.hid (G1.out.below hb1 (by omega))
  clear hb1 H1 H2 G1 X0 R0 E0
  cases hg : goodR D p S q R z
  · have HO : Hid (untilOut D p S q R z bb N = (Rv.zero, [], 5)) := by show _ = _; simp [untilOut, hg]
    clear hg
    have r0 := (R1.out.2 0 _ rfl).1; have r1 := (R1.out.2 1 _ rfl).1; have r2 := (R1.out.2 2 _ rfl).1; have r3 := (R1.out.2 3 _ rfl).1; have r4 := (R1.out.2 4 _ rfl).1; have r5 := (R1.out.2 5 _ rfl).1
    have g0 := (R1.out.2 0 _ rfl).2; have g1 := (R1.out.2 1 _ rfl).2; have g2 := (R1.out.2 2 _ rfl).2; have g3 := (R1.out.2 3 _ rfl).2; have g4 := (R1.out.2 4 _ rfl).2; have g5 := (R1.out.2 5 _ rfl).2
    go_wp2
    refine bodyPost_ret (v := .tuple #[.agg #[.slice none 0 0, .int .i64 0, .slice none 0 0, .int .i64 0, .slice none 0 0, .int .i64 0], .slice none 0 0, .int .i64 5]) (by simp [results, Try.results23, go_sem, r0, r1, r2, r3, r4, r5, g0, g1, g2, g3, g4, g5]) rfl ?_
    rw [HO.out]
    refine Post3R.zero ?_
    (repeat (with_reducible refine below_set ?_ (by omega) _))
    exact E1.out
  · obtain ⟨hvr, hq9⟩ := goodR_iff.1 hg
    cases hi0 : inB bb 0 255
    · have HO : Hid (untilOut D p S q R z bb N = (Rv.zero, [], 5)) := by show _ = _; simp [untilOut, hg, hi0]
      clear hg hvr
      have r0 := (R1.out.2 0 _ rfl).1; have r1 := (R1.out.2 1 _ rfl).1; have r2 := (R1.out.2 2 _ rfl).1; have r3 := (R1.out.2 3 _ rfl).1; have r4 := (R1.out.2 4 _ rfl).1; have r5 := (R1.out.2 5 _ rfl).1
      have g0 := (R1.out.2 0 _ rfl).2; have g1 := (R1.out.2 1 _ rfl).2; have g2 := (R1.out.2 2 _ rfl).2; have g3 := (R1.out.2 3 _ rfl).2; have g4 := (R1.out.2 4 _ rfl).2; have g5 := (R1.out.2 5 _ rfl).2
      go_wp2_with (go_at_call 38; refine (isIn_any).mono ?_; rintro e w' ⟨rfl, rfl⟩)
      refine bodyPost_ret (v := .tuple #[.agg #[.slice none 0 0, .int .i64 0, .slice none 0 0, .int .i64 0, .slice none 0 0, .int .i64 0], .slice none 0 0, .int .i64 5]) (by simp [results, Try.results23, go_sem, r0, r1, r2, r3, r4, r5, g0, g1, g2, g3, g4, g5]) rfl ?_
      rw [HO.out]
      refine Post3R.zero ?_
      (repeat (with_reducible refine below_set ?_ (by omega) _))
      exact E1.out
    · have hj0 := inB_iff.1 hi0
      cases hi1 : inB N 0 60
      · have HO : Hid (untilOut D p S q R z bb N = (Rv.zero, [], 5)) := by show _ = _; simp [untilOut, hg, hi0, hi1]
        clear hg hvr
        have r0 := (R1.out.2 0 _ rfl).1; have r1 := (R1.out.2 1 _ rfl).1; have r2 := (R1.out.2 2 _ rfl).1; have r3 := (R1.out.2 3 _ rfl).1; have r4 := (R1.out.2 4 _ rfl).1; have r5 := (R1.out.2 5 _ rfl).1
        have g0 := (R1.out.2 0 _ rfl).2; have g1 := (R1.out.2 1 _ rfl).2; have g2 := (R1.out.2 2 _ rfl).2; have g3 := (R1.out.2 3 _ rfl).2; have g4 := (R1.out.2 4 _ rfl).2; have g5 := (R1.out.2 5 _ rfl).2
        go_wp2_with (go_at_call 38; refine (isIn_any).mono ?_; rintro e w' ⟨rfl, rfl⟩)
        refine bodyPost_ret (v := .tuple #[.agg #[.slice none 0 0, .int .i64 0, .slice none 0 0, .int .i64 0, .slice none 0 0, .int .i64 0], .slice none 0 0, .int .i64 5]) (by simp [results, Try.results23, go_sem, r0, r1, r2, r3, r4, r5, g0, g1, g2, g3, g4, g5]) rfl ?_
        rw [HO.out]
        refine Post3R.zero ?_
        (repeat (with_reducible refine below_set ?_ (by omega) _))
        exact E1.out
      · have hj1 := inB_iff.1 hi1
        obtain ⟨hvd, hz, hRz, hah⟩ := validR_iff.1 hvr
        obtain ⟨hb, hs12, _, hp, hq⟩ := validD_iff.1 hvd
        have hn60 : n ≤ 60 := by rw [HL.out]; exact bytesB_le hb
        have hn12 : n' ≤ 12 := by rw [HL'.out]; exact hs12
        have hn16 : n2 ≤ 16 := by have := HG.out; omega
        obtain ⟨a, rfl⟩ := Int.eq_ofNat_of_zero_le hq.1
        have hK := start_ok hvr
        obtain ⟨N, rfl⟩ := Int.eq_ofNat_of_zero_le (show 0 ≤ N by omega)
        obtain ⟨T, hT⟩ : ∃ T, untilGo D S z N bb 62 p a R [] = T := ⟨_, rfl⟩
        have HO : Hid (untilOut D p S a R z bb N = rsOut D S z T) := by show _ = _; rw [← hT]; simp [untilOut, hg, hi0, hi1]
        have hinv := untilGo_inv (N := N) (bb := bb) hz.1 62 p a R [] hvd (by simpa using hK) (by simp; omega)
        rw [hT] at hinv
        have HI := Lib.hid (RsOk.v hinv)
        have HVD := Lib.hid hvd
        have HT := Lib.hid hT
        clear hg hvr hb hs12 hah hT hvd hinv
        have x0 := (X1.out.2 0 _ rfl).1; have x1 := (X1.out.2 1 _ rfl).1; have x2 := (X1.out.2 2 _ rfl).1; have x3 := (X1.out.2 3 _ rfl).1; have x4 := (X1.out.2 4 _ rfl).1; have x5 := (X1.out.2 5 _ rfl).1
        go_wp2_with (first | (go_at_call 38; refine (isIn_any).mono ?_; rintro e w' ⟨rfl, rfl⟩) | fail)
        refine (lookaheadOf_any I1.out I2.out G2.out (by omega) (by omega) (by omega) (by omega) (by omega) (by omega) (by unfold okInt; omega) (by unfold okInt; omega)).mono ?_
        rintro e w2 ⟨b, A3, n3, c3, A3', n3', c3', A4, n4, c4, rfl, ⟨hc3, hc3', hc4⟩, hb2, hbl, hx, h1, h2, h3, ha, ha1, ha2⟩
        have hbw := hx.lt
        have s2 := hb2.size
        have HLK : Hid (LookAt w1.heap.size b A3 n3 c3 A3' n3' c3' D S z p a A4 n4 c4 w1.heap.size b R w2) := ⟨hx, ⟨h1, h2, h3⟩, .inr (Nat.le_refl _), ⟨hbl, Nat.le_refl _, by omega⟩, ⟨hc3, hc4⟩, ha1, ha2⟩
        have HA := Lib.hid ha
        have R2 := Lib.hid (R1.out.below hb2 (by omega))
        have E2 := Lib.hid (below_step hb2 E1.out (by omega))
        have HKK := Lib.hid hK
        clear hb2 hx h1 h2 h3 ha ha1 ha2 R1 E1 I1 I2 G2 X1 hK
        clear x0 x1 x2 x3 x4 x5
        have hcall := (until_any (bb := bb) (N := N) HLK.out HVD.out (by omega) hz.1 (by omega) HKK.out (by omega)).mono (fun e w' => WorkPost.q HLK.out)
        rw [HT.out] at hcall
        have HC := Lib.hid hcall
        clear hcall
        go_wp2_with fail
        refine HC.out.mono ?_
        rintro e w3 ⟨A6, n6, c6, A5, n5, c5, M', C', rfl, hc6, ht, hlk, hi6, hap, hap1, hap2⟩
        have s3 := ht.size
        have R3 := Lib.hid (R2.out.turn ht (by omega) (by omega))
        have E3 : Hid (Below w.heap.size w w3) := E2.out.trans (ht.below (by omega) (by omega))
        have HLK3 := Lib.hid hlk
        have HI6 := Lib.hid hi6
        have HP := Lib.hid (And.intro hap (And.intro hap1 hap2))
        clear ht hlk hi6 hap hap1 hap2 R2 E2 HLK HC
        go_wp2_with fail
        refine (reader_any HLK3.out.1).mono ?_
        rintro e w4 ⟨rfl, hb4⟩
        have s4 := hb4.size
        have HLK4 := Lib.hid (HLK3.out.below hb4 (Nat.le_refl _))
        have HI7 := Lib.hid (HI6.out.below hb4 (by omega))
        have R4 := Lib.hid (R3.out.below hb4 (by omega))
        have E4 := Lib.hid (below_step hb4 E3.out (by omega))
        clear hb4 HLK3 HI6 R3 E3
        have r0 := (R4.out.2 0 _ rfl).1; have r1 := (R4.out.2 1 _ rfl).1; have r2 := (R4.out.2 2 _ rfl).1; have r3 := (R4.out.2 3 _ rfl).1; have r4 := (R4.out.2 4 _ rfl).1; have r5 := (R4.out.2 5 _ rfl).1
        have g0 := (R4.out.2 0 _ rfl).2; have g1 := (R4.out.2 1 _ rfl).2; have g2 := (R4.out.2 2 _ rfl).2; have g3 := (R4.out.2 3 _ rfl).2; have g4 := (R4.out.2 4 _ rfl).2; have g5 := (R4.out.2 5 _ rfl).2
        go_wp2
        refine bodyPost_ret (v := .tuple #[.agg #[.slice (A3) n3 c3, .int .i64 (T.p), .slice (A3') n3' c3', .int .i64 ((T.a : Int)), .slice (A5) n5 c5, .int .i64 (z)], .slice A6 n6 c6, .int .i64 T.st]) (by simp [results, Try.results23, go_sem, r0, r1, r2, r3, r4, r5, g0, g1, g2, g3, g4, g5]) rfl ?_
        rw [HO.out]
        exact rs_post E4.out (by omega) HLK4.out (HI7.out.more (Nat.le_refl _) (by omega)) HP.out.1 HP.out.2.1 HP.out.2.2 HA.out HI.out hz hc3' hc6
end Go.Proofs.Ytmjmplfhedknhaa
