/- A writer's public functions, the program's: FlushWriter, CutWriter. -/
import Derived.Test.YtdiebkaedjlckaaDoorC3c
import Derived.Test.YtdiebkaedjlckaaDoorC2c
import Derived.Test.YtdiebkaedjlckaaDoorC1i
namespace Go.Proofs.YtdiebkaedjlckaaDoor
open Go.ChangeShapes Go.WideShapes Go.ChangeAt Go.RowKit
set_option linter.unusedSimpArgs false
set_option linter.unusedVariables false
set_option maxRecDepth 10000

/-- A writer can be written. -/
def goodW (D : List Int) (p : Int) (S : List Int) (q : Int) (R : List Int) (z : Int) : Bool := validW D p S q R z && decide (q ≤ 900)
theorem goodW_iff {D S R : List Int} {p q z : Int} : goodW D p S q R z = true ↔ validW D p S q R z = true ∧ q ≤ 900 := by simp [goodW]
theorem goodW_start {D S R : List Int} {p q z : Int} (h : goodW D p S q R z = true) : validD D p S (q.toNat : Int) = true ∧ q.toNat ≤ 900 ∧ R.length ≤ 16 ∧ allB R 0 255 = true ∧ (1 ≤ z ∧ z ≤ 16) ∧ 0 ≤ q ∧ D.length ≤ 60 ∧ S.length ≤ 12 := by
  obtain ⟨hv, hq⟩ := goodW_iff.1 h
  obtain ⟨hd, hz, hRz, hR⟩ := validW_iff.1 hv
  obtain ⟨hb, hs, _, _, hq0, _⟩ := validD_iff.1 hd
  exact ⟨by rw [Int.toNat_of_nonneg hq0]; exact hd, by omega, by omega, hR, hz, hq0, bytesB_le hb, hs⟩
/-- A writer and an int in new memory. -/
def Post2I (o : Rv × Int) (w : World) (e : Ending) (w' : World) : Prop :=
  ∃ A n c A' n' c' A2 n2 c2, e = .returned (.tuple #[.agg #[.slice (A) n c, .int .i64 (o.1.p), .slice (A') n' c', .int .i64 (o.1.q), .slice (A2) n2 c2, .int .i64 (o.1.z)], .int .i64 o.2]) ∧ (n ≤ c ∧ n' ≤ c' ∧ n2 ≤ c2) ∧ Below w.heap.size w w' ∧ RdrIn w' w.heap.size w'.heap.size A n A' n' A2 n2 o.1.d o.1.p o.1.s o.1.q o.1.r o.1.z
theorem Post2I.zero {w w' : World} (hb : Below w.heap.size w w') : Post2I (Rv.zero, 5) w (.returned (.tuple #[.agg #[.slice none 0 0, .int .i64 0, .slice none 0 0, .int .i64 0, .slice none 0 0, .int .i64 0], .int .i64 5])) w' :=
  ⟨none, 0, 0, none, 0, 0, none, 0, 0, rfl, ⟨Nat.le_refl _, Nat.le_refl _, Nat.le_refl _⟩, hb, DevIn.zero _ _ _, (Ints.nil _ _ _ 0 _).1, fun h => absurd h (by omega), fun h => absurd h (by omega), by unfold okInt; show _ ≤ (0 : Int) ∧ (0 : Int) ≤ _; omega⟩
/-- The writer that a flush leaves. -/
def wvOf (S : List Int) (z : Int) (T : Fv) : Rv := ⟨T.d, T.p, S, (T.q : Int), T.r, z⟩
def flOut (D : List Int) (p : Int) (S : List Int) (q : Int) (R : List Int) (z : Int) : Rv × Int :=
  if goodW D p S q R z then (wvOf S z (fuGo S R.length D p q.toNat R), (fuGo S R.length D p q.toNat R).st) else (Rv.zero, 5)
def ctwOut (D : List Int) (p : Int) (S : List Int) (q : Int) (R : List Int) (z N : Int) : Rv × Int :=
  if goodW D p S q R z && inB N 0 60 then
    (if (fuGo S R.length D p q.toNat R).st = 0 then (wvOf S z { fuGo S R.length D p q.toNat R with d := cutL (fuGo S R.length D p q.toNat R).d N.toNat }, 0) else (wvOf S z (fuGo S R.length D p q.toNat R), (fuGo S R.length D p q.toNat R).st)) else (Rv.zero, 5)
/-- The lengths of all that is given. -/
def LenW (o : Rv × Int) : Prop := o.1.d.length ≤ 60 ∧ o.1.s.length ≤ 60 ∧ o.1.r.length ≤ 60
theorem LenW.zero (k : Int) : LenW (Rv.zero, k) := ⟨by show ([] : List Int).length ≤ 60; simp, by show ([] : List Int).length ≤ 60; simp, by show ([] : List Int).length ≤ 60; simp⟩
theorem LenW.of {S : List Int} {z k : Int} {T : Fv} (hv : validD T.d T.p S (T.q : Int) = true) (hr : T.r.length ≤ 16) : LenW (wvOf S z T, k) := by
  obtain ⟨hb, hs, _⟩ := validD_iff.1 hv
  exact ⟨bytesB_le hb, by show S.length ≤ 60; omega, by show T.r.length ≤ 60; omega⟩
theorem flOut_le (D : List Int) (p : Int) (S : List Int) (q : Int) (R : List Int) (z : Int) : LenW (flOut D p S q R z) := by
  unfold flOut
  split
  · obtain ⟨h1, h2, h3, h4, _⟩ := goodW_start ‹_›
    obtain ⟨i1, i2, i3, i4, i5⟩ := fuGo_valid R.length D p q.toNat R h1 h4 (by omega)
    exact .of i1 (by omega)
  · exact .zero _
theorem ctwOut_le (D : List Int) (p : Int) (S : List Int) (q : Int) (R : List Int) (z N : Int) : LenW (ctwOut D p S q R z N) := by
  unfold ctwOut
  split
  · obtain ⟨hg, hN⟩ := Bool.and_eq_true_iff.1 ‹_›
    obtain ⟨h1, h2, h3, h4, _⟩ := goodW_start hg
    obtain ⟨i1, i2, i3, i4, i5⟩ := fuGo_valid R.length D p q.toNat R h1 h4 (by omega)
    have hN2 := inB_iff.1 hN
    split
    · obtain ⟨hb, hs, _⟩ := validD_iff.1 i1
      exact ⟨by show (cutL _ _).length ≤ 60; rw [cutL_len]; omega, by show S.length ≤ 60; omega, by show (fuGo S R.length D p q.toNat R).r.length ≤ 60; omega⟩
    · exact .of i1 (by omega)
  · exact .zero _
/-- The answer, out of a writer at work. -/
theorem w2_post {lo b n1 c1 n' c' n5 c5 M C M2 C2 : Nat} {A1 A' A5 : Option Addr} {S : List Int} {z k : Int} {T : Fv} {w w' : World} (hE : Below w.heap.size w w') (hlo : w.heap.size ≤ lo) (h : BackAt lo b A1 n1 c1 A' n' c' T.d S z T.p T.q A5 n5 c5 T.r M C M2 C2 w') (hv : validD T.d T.p S (T.q : Int) = true) (hz : 1 ≤ z ∧ z ≤ 16) (hc' : n' ≤ c') :
    Post2I (wvOf S z T, k) w (.returned (.tuple #[.agg #[.slice (A1) n1 c1, .int .i64 (T.p), .slice (A') n' c', .int .i64 ((T.q : Int)), .slice (A5) n5 c5, .int .i64 (z)], .int .i64 k])) w' := by
  obtain ⟨h1, ⟨h2, h3, h4⟩, _, ⟨h6, h7, h8, h9, h10, _⟩, ⟨h11, h12⟩, h13, h14, h15⟩ := h
  obtain ⟨_, _, _, hp, hq⟩ := validD_iff.1 hv
  have hlt := h1.lt
  exact ⟨A1, n1, c1, A', n', c', A5, n5, c5, rfl, ⟨h11, hc', h12⟩, hE, ⟨h2.more (by omega) h9, h3.more hlo (by omega), h13, by unfold okInt; show _ ≤ T.p ∧ T.p ≤ _; omega, by unfold okInt; show _ ≤ (T.q : Int) ∧ (T.q : Int) ≤ _; omega⟩, h4.more (by omega) h10, h14, h15, by unfold okInt; show _ ≤ z ∧ z ≤ _; omega⟩
/-- Stores into another box leave it. -/
theorem BackAt.sets {lo b n c n' c' q n2 c2 M C M2 C2 k : Nat} {A A' A2 : Option Addr} {D S R : List Int} {z p : Int} {w : World} {u0 u1 u2 u3 u4 u5 : Value} (h : BackAt lo b A n c A' n' c' D S z p q A2 n2 c2 R M C M2 C2 w) (hk : k < lo) : BackAt lo b A n c A' n' c' D S z p q A2 n2 c2 R M C M2 C2 ((((((w.setCell ⟨k, 0, none⟩ u0).setCell ⟨k, 1, none⟩ u1).setCell ⟨k, 2, none⟩ u2).setCell ⟨k, 3, none⟩ u3).setCell ⟨k, 4, none⟩ u4).setCell ⟨k, 5, none⟩ u5) := by
  have one : ∀ {w : World} {o : Nat} {u : Value}, BackAt lo b A n c A' n' c' D S z p q A2 n2 c2 R M C M2 C2 w → BackAt lo b A n c A' n' c' D S z p q A2 n2 c2 R M C M2 C2 (w.setCell ⟨k, o, none⟩ u) := by
    intro w o u h
    obtain ⟨h1, ⟨h2, h3, h4⟩, h5, ⟨h6, h7, h8, h9, h10, hms⟩, h11⟩ := h
    exact ⟨h1.set_ (by omega) _, ⟨h2.set_ (by omega) _, h3.set_ (by omega) _, h4.set_ (by omega) _⟩, h5, ⟨h6, h7, h8, by simpa using h9, by simpa using h10, by simpa using hms⟩, h11⟩
  exact one (one (one (one (one (one h)))))

set_option maxHeartbeats 1000000 in
theorem canWrite_any {A A' A2 : Option Addr} {n c n' c' n2 c2 : Nat} {D S R : List Int} {p q z : Int} {w : World} {L L' B B' M C : Nat} (h : Ints w L B A n D) (h' : Ints w L' B' A' n' S) (g : Ints w M C A2 n2 R) (hB : B ≤ w.heap.size) (hB' : B' ≤ w.heap.size) (hC : C ≤ w.heap.size) (hnc : n ≤ c) :
    Calls Tryd.prog 90 #[.agg #[.slice (A) n c, .int .i64 (p), .slice (A') n' c', .int .i64 (q), .slice (A2) n2 c2, .int .i64 (z)]] w (BoolB (goodW D p S q R z) w) := by
  have H1 := Lib.hid (h.alloc hB (.cells #[.slice (A) n c, .int .i64 (p), .slice (A') n' c', .int .i64 (q), .slice (A2) n2 c2, .int .i64 (z)] 30))
  have H2 := Lib.hid (h'.alloc hB' (.cells #[.slice (A) n c, .int .i64 (p), .slice (A') n' c', .int .i64 (q), .slice (A2) n2 c2, .int .i64 (z)] 30))
  have G1 := Lib.hid (g.alloc hC (.cells #[.slice (A) n c, .int .i64 (p), .slice (A') n' c', .int .i64 (q), .slice (A2) n2 c2, .int .i64 (z)] 30))
  have X0 := Lib.hid (Box.new w 30 [.slice (A) n c, .int .i64 (p), .slice (A') n' c', .int .i64 (q), .slice (A2) n2 c2, .int .i64 (z)])
  clear h h' g
  go_enter Tryd.func90, Tryd.ntmps90
  go_wp2_with fail
  refine (ValidWriter_any H1.out H2.out G1.out (by first | omega | (simp; omega) | (simp; done)) (by first | omega | (simp; omega) | (simp; done)) (by first | omega | (simp; omega) | (simp; done)) hnc).mono ?_
  rintro e w1 ⟨rfl, hb1⟩
  (try simp only [World.size_alloc, World.size_setCell, World.size_drew] at hb1)
  have E1 : Hid (Below w.heap.size w w1) := below_step hb1 (by go_grown) (by omega)
  have X1 := Lib.hid (X0.out.below hb1 (by omega))
  clear hb1 H1 H2 G1 X0
  have x0 := (X1.out.2 0 _ rfl).1; have x1 := (X1.out.2 1 _ rfl).1; have x2 := (X1.out.2 2 _ rfl).1; have x3 := (X1.out.2 3 _ rfl).1; have x4 := (X1.out.2 4 _ rfl).1; have x5 := (X1.out.2 5 _ rfl).1
  cases hv : validW D p S q R z
  · have HV := Lib.hid hv
    clear hv
    go_wp2
    go_ret
    exact ⟨ret_bool (by simp [goodW, HV.out]), E1.out⟩
  · have HV := Lib.hid hv
    clear hv
    go_wp2_with fail
    refine (hasCalls_any (by omega) (by omega)).mono ?_
    rintro e w2 ⟨rfl, hb2⟩
    have HB2 := Lib.hid hb2
    have s1 := E1.out.size
    clear hb2
    go_wp2
    go_ret
    exact ⟨ret_bool (by rw [goodW, HV.out, Bool.true_and] <;> exact decide_eq_decide.2 (by omega)), below_step HB2.out E1.out (by omega)⟩
end Go.Proofs.YtdiebkaedjlckaaDoor
