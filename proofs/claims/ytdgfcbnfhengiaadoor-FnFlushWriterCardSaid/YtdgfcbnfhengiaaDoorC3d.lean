/- A writer's public functions, the program's: FlushWriter, CutWriter. -/
import Derived.Test.YtdgfcbnfhengiaaDoorC3c
import Derived.Test.YtdgfcbnfhengiaaDoorC2c
import Derived.Test.YtdgfcbnfhengiaaDoorC1i
namespace Go.Proofs.YtdgfcbnfhengiaaDoor
open Go.ChangeShapes Go.WideShapes Go.ChangeAt Go.RowKit
set_option linter.unusedSimpArgs false
set_option linter.unusedVariables false
set_option maxRecDepth 10000

/-- A writer can be written. -/
def goodW (D : List Int) (p : Int) (S : List Int) (q : Int) (R : List Int) (z : Int) : Bool := validW D p S q R z && decide (q ≤ 900)
theorem goodW_iff {D S R : List Int} {p q z : Int} : goodW D p S q R z = true ↔ validW D p S q R z = true ∧ q ≤ 900 := by simp [goodW]
theorem goodW_start {D S R : List Int} {p q z : Int} (h : goodW D p S q R z = true) : validD D p S (q.toNat : Int) = true ∧ q.toNat ≤ 900 ∧ R.length ≤ 16 ∧ allB R 0 255 = true ∧ (1 ≤ z ∧ z ≤ 16) ∧ 0 ≤ q ∧ D.length ≤ 60 ∧ S.length ≤ 12 := by
  obtain ⟨hv, hq⟩ := goodW_iff.1 h
  obtain ⟨hd, hz, hRz, hR⟩ := validW_iff.1 hv
  obtain ⟨hb, hs, _, _, hq0, _⟩ := validD_iff.1 hd
  exact ⟨by rw [Int.toNat_of_nonneg hq0]; exact hd, by omega, by omega, hR, hz, hq0, bytesB_le hb, hs⟩
/-- A writer and an int in new memory. -/
def Post2I (o : Rv × Int) (w : World) (e : Ending) (w' : World) : Prop :=
  ∃ A n c A' n' c' A2 n2 c2, e = .returned (.tuple #[.agg #[.slice (A) n c, .int .i64 (o.1.p), .slice (A') n' c', .int .i64 (o.1.q), .slice (A2) n2 c2, .int .i64 (o.1.z)], .int .i64 o.2]) ∧ (n ≤ c ∧ n' ≤ c' ∧ n2 ≤ c2) ∧ Below w.heap.size w w' ∧ RdrIn w' w.heap.size w'.heap.size A n A' n' A2 n2 o.1.d o.1.p o.1.s o.1.q o.1.r o.1.z
theorem Post2I.zero {w w' : World} (hb : Below w.heap.size w w') : Post2I (Rv.zero, 5) w (.returned (.tuple #[.agg #[.slice none 0 0, .int .i64 0, .slice none 0 0, .int .i64 0, .slice none 0 0, .int .i64 0], .int .i64 5])) w' :=
  ⟨none, 0, 0, none, 0, 0, none, 0, 0, rfl, ⟨Nat.le_refl _, Nat.le_refl _, Nat.le_refl _⟩, hb, DevIn.zero _ _ _, (Ints.nil _ _ _ 0 _).1, fun h => absurd h (by omega), fun h => absurd h (by omega), by unfold okInt; show _ ≤ (0 : Int) ∧ (0 : Int) ≤ _; omega⟩
/-- The writer that a flush leaves. -/
def wvOf (S : List Int) (z : Int) (T : Fv) : Rv := ⟨T.d, T.p, S, (T.q : Int), T.r, z⟩
def flOut (D : List Int) (p : Int) (S : List Int) (q : Int) (R : List Int) (z : Int) : Rv × Int :=
  if goodW D p S q R z then (wvOf S z (fuGo S R.length D p q.toNat R), (fuGo S R.length D p q.toNat R).st) else (Rv.zero, 5)
def ctwOut (D : List Int) (p : Int) (S : List Int) (q : Int) (R : List Int) (z N : Int) : Rv × Int :=
  if goodW D p S q R z && inB N 0 60 then
    (if (fuGo S R.length D p q.toNat R).st = 0 then (wvOf S z { fuGo S R.length D p q.toNat R with d := cutL (fuGo S R.length D p q.toNat R).d N.toNat }, 0) else (wvOf S z (fuGo S R.length D p q.toNat R), (fuGo S R.length D p q.toNat R).st)) else (Rv.zero, 5)
/-- The lengths of all that is given. -/
def LenW (o : Rv × Int) : Prop := o.1.d.length ≤ 60 ∧ o.1.s.length ≤ 60 ∧ o.1.r.length ≤ 60
theorem LenW.zero (k : Int) : LenW (Rv.zero, k) := ⟨by show ([] : List Int).length ≤ 60; simp, by show ([] : List Int).length ≤ 60; simp, by show ([] : List Int).length ≤ 60; simp⟩
theorem LenW.of {S : List Int} {z k : Int} {T : Fv} (hv : validD T.d T.p S (T.q : Int) = true) (hr : T.r.length ≤ 16) : LenW (wvOf S z T, k) := by
  obtain ⟨hb, hs, _⟩ := validD_iff.1 hv
  exact ⟨bytesB_le hb, by show S.length ≤ 60; omega, by show T.r.length ≤ 60; omega⟩
theorem flOut_le (D : List Int) (p : Int) (S : List Int) (q : Int) (R : List Int) (z : Int) : LenW (flOut D p S q R z) := by
  unfold flOut
  split
  · obtain ⟨h1, h2, h3, h4, _⟩ := goodW_start ‹_›
    obtain ⟨i1, i2, i3, i4, i5⟩ := fuGo_valid R.length D p q.toNat R h1 h4 (by omega)
    exact .of i1 (by omega)
  · exact .zero _
theorem ctwOut_le (D : List Int) (p : Int) (S : List Int) (q : Int) (R : List Int) (z N : Int) : LenW (ctwOut D p S q R z N) := by
  unfold ctwOut
  split
  · obtain ⟨hg, hN⟩ := Bool.and_eq_true_iff.1 ‹_›
    obtain ⟨h1, h2, h3, h4, _⟩ := goodW_start hg
    obtain ⟨i1, i2, i3, i4, i5⟩ := fuGo_valid R.length D p q.toNat R h1 h4 (by omega)
    have hN2 := inB_iff.1 hN
    split
    · obtain ⟨hb, hs, _⟩ := validD_iff.1 i1
      exact ⟨by show (cutL _ _).length ≤ 60; rw [cutL_len]; omega, by show S.length ≤ 60; omega, by show (fuGo S R.length D p q.toNat R).r.length ≤ 60; omega⟩
    · exact .of i1 (by omega)
  · exact .zero _
/-- The answer, out of a writer at work. -/
theorem w2_post {lo b n1 c1 n' c' n5 c5 M C M2 C2 : Nat} {A1 A' A5 : Option Addr} {S : List Int} {z k : Int} {T : Fv} {w w' : World} (hE : Below w.heap.size w w') (hlo : w.heap.size ≤ lo) (h : BackAt lo b A1 n1 c1 A' n' c' T.d S z T.p T.q A5 n5 c5 T.r M C M2 C2 w') (hv : validD T.d T.p S (T.q : Int) = true) (hz : 1 ≤ z ∧ z ≤ 16) (hc' : n' ≤ c') :
    Post2I (wvOf S z T, k) w (.returned (.tuple #[.agg #[.slice (A1) n1 c1, .int .i64 (T.p), .slice (A') n' c', .int .i64 ((T.q : Int)), .slice (A5) n5 c5, .int .i64 (z)], .int .i64 k])) w' := by
  obtain ⟨h1, ⟨h2, h3, h4⟩, _, ⟨h6, h7, h8, h9, h10, _⟩, ⟨h11, h12⟩, h13, h14, h15⟩ := h
  obtain ⟨_, _, _, hp, hq⟩ := validD_iff.1 hv
  have hlt := h1.lt
  exact ⟨A1, n1, c1, A', n', c', A5, n5, c5, rfl, ⟨h11, hc', h12⟩, hE, ⟨h2.more (by omega) h9, h3.more hlo (by omega), h13, by unfold okInt; show _ ≤ T.p ∧ T.p ≤ _; omega, by unfold okInt; show _ ≤ (T.q : Int) ∧ (T.q : Int) ≤ _; omega⟩, h4.more (by omega) h10, h14, h15, by unfold okInt; show _ ≤ z ∧ z ≤ _; omega⟩
/-- Stores into another box leave it. -/
theorem BackAt.sets {lo b n c n' c' q n2 c2 M C M2 C2 k : Nat} {A A' A2 : Option Addr} {D S R : List Int} {z p : Int} {w : World} {u0 u1 u2 u3 u4 u5 : Value} (h : BackAt lo b A n c A' n' c' D S z p q A2 n2 c2 R M C M2 C2 w) (hk : k < lo) : BackAt lo b A n c A' n' c' D S z p q A2 n2 c2 R M C M2 C2 ((((((w.setCell ⟨k, 0, none⟩ u0).setCell ⟨k, 1, none⟩ u1).setCell ⟨k, 2, none⟩ u2).setCell ⟨k, 3, none⟩ u3).setCell ⟨k, 4, none⟩ u4).setCell ⟨k, 5, none⟩ u5) := by
  have one : ∀ {w : World} {o : Nat} {u : Value}, BackAt lo b A n c A' n' c' D S z p q A2 n2 c2 R M C M2 C2 w → BackAt lo b A n c A' n' c' D S z p q A2 n2 c2 R M C M2 C2 (w.setCell ⟨k, o, none⟩ u) := by
    intro w o u h
    obtain ⟨h1, ⟨h2, h3, h4⟩, h5, ⟨h6, h7, h8, h9, h10, hms⟩, h11⟩ := h
    exact ⟨h1.set_ (by omega) _, ⟨h2.set_ (by omega) _, h3.set_ (by omega) _, h4.set_ (by omega) _⟩, h5, ⟨h6, h7, h8, by simpa using h9, by simpa using h10, by simpa using hms⟩, h11⟩
  exact one (one (one (one (one (one h)))))

set_option maxHeartbeats 1000000 in
theorem canWrite_any {A A' A2 : Option Addr} {n c n' c' n2 c2 : Nat} {D S R : List Int} {p q z : Int} {w : World} {L L' B B' M C : Nat} (h : Ints w L B A n D) (h' : Ints w L' B' A' n' S) (g : Ints w M C A2 n2 R) (hB : B ≤ w.heap.size) (hB' : B' ≤ w.heap.size) (hC : C ≤ w.heap.size) (hnc : n ≤ c) :
    Calls Tryd.prog 54 #[.agg #[.slice (A) n c, .int .i64 (p), .slice (A') n' c', .int .i64 (q), .slice (A2) n2 c2, .int .i64 (z)]] w (BoolB (goodW D p S q R z) w) := by
  have H1 := Lib.hid (h.alloc hB (.cells #[.slice (A) n c, .int .i64 (p), .slice (A') n' c', .int .i64 (q), .slice (A2) n2 c2, .int .i64 (z)] 27))
  have H2 := Lib.hid (h'.alloc hB' (.cells #[.slice (A) n c, .int .i64 (p), .slice (A') n' c', .int .i64 (q), .slice (A2) n2 c2, .int .i64 (z)] 27))
  have G1 := Lib.hid (g.alloc hC (.cells #[.slice (A) n c, .int .i64 (p), .slice (A') n' c', .int .i64 (q), .slice (A2) n2 c2, .int .i64 (z)] 27))
  have X0 := Lib.hid (Box.new w 27 [.slice (A) n c, .int .i64 (p), .slice (A') n' c', .int .i64 (q), .slice (A2) n2 c2, .int .i64 (z)])
  clear h h' g
  go_enter Tryd.func54, Tryd.ntmps54
  go_wp2_with fail
  refine (ValidWriter_any H1.out H2.out G1.out (by first | omega | (simp; omega) | (simp; done)) (by first | omega | (simp; omega) | (simp; done)) (by first | omega | (simp; omega) | (simp; done)) hnc).mono ?_
  rintro e w1 ⟨rfl, hb1⟩
  (try simp only [World.size_alloc, World.size_setCell, World.size_drew] at hb1)
  have E1 : Hid (Below w.heap.size w w1) := below_step hb1 (by go_grown) (by omega)
  have X1 := Lib.hid (X0.out.below hb1 (by omega))
  clear hb1 H1 H2 G1 X0
  have x0 := (X1.out.2 0 _ rfl).1; have x1 := (X1.out.2 1 _ rfl).1; have x2 := (X1.out.2 2 _ rfl).1; have x3 := (X1.out.2 3 _ rfl).1; have x4 := (X1.out.2 4 _ rfl).1; have x5 := (X1.out.2 5 _ rfl).1
  cases hv : validW D p S q R z
  · have HV := Lib.hid hv
    clear hv
    go_wp2
    go_ret
    exact ⟨ret_bool (by simp [goodW, HV.out]), E1.out⟩
  · have HV := Lib.hid hv
    clear hv
    go_wp2_with fail
    refine (hasCalls_any (by omega) (by omega)).mono ?_
    rintro e w2 ⟨rfl, hb2⟩
    have HB2 := Lib.hid hb2
    have s1 := E1.out.size
    clear hb2
    go_wp2
    go_ret
    exact ⟨ret_bool (by rw [goodW, HV.out, Bool.true_and] <;> exact decide_eq_decide.2 (by omega)), below_step HB2.out E1.out (by omega)⟩
set_option maxHeartbeats 8000000 in
theorem FlushWriter_x {A A' A2 : Option Addr} {n c n' c' n2 c2 : Nat} {D S R : List Int} {p q z : Int} {w : World} {L L' B B' M C : Nat} {E : Nat} {a0 a1 a2 : Addr} (hE : Errs w E a0 a1 a2) (hEw : E ≤ w.heap.size) (h : Ints w L B A n D) (h' : Ints w L' B' A' n' S) (g : Ints w M C A2 n2 R) (hB : B ≤ w.heap.size) (hB' : B' ≤ w.heap.size) (hC : C ≤ w.heap.size) (hc : n ≤ c) (hc1 : n' ≤ c') (hc2 : n2 ≤ c2) (_hn : n ≤ 1048576) (_hn1 : n' ≤ 1048576) (_hn2 : n2 ≤ 1048576) :
    Calls Tryd.prog 16 #[.agg #[.slice (A) n c, .int .i64 (p), .slice (A') n' c', .int .i64 (q), .slice (A2) n2 c2, .int .i64 (z)]] w (Post2I (flOut D p S q R z) w) := by
  have HG := Lib.hid g.len
  have HL := Lib.hid h.len
  have HL' := Lib.hid h'.len
  have HE0 := Lib.hid hE
  have H1 : Hid (Ints ((w.alloc (.cells #[.slice (A) n c, .int .i64 (p), .slice (A') n' c', .int .i64 (q), .slice (A2) n2 c2, .int .i64 (z)] 27)).alloc (.cells #[.slice none 0 0, .int .i64 0, .slice none 0 0, .int .i64 0, .slice none 0 0, .int .i64 0] 27)) L B A n D) := (h.alloc hB _).alloc (by first | omega | (simp; omega) | (simp; done)) _
  have H2 : Hid (Ints ((w.alloc (.cells #[.slice (A) n c, .int .i64 (p), .slice (A') n' c', .int .i64 (q), .slice (A2) n2 c2, .int .i64 (z)] 27)).alloc (.cells #[.slice none 0 0, .int .i64 0, .slice none 0 0, .int .i64 0, .slice none 0 0, .int .i64 0] 27)) L' B' A' n' S) := (h'.alloc hB' _).alloc (by first | omega | (simp; omega) | (simp; done)) _
  have G1 : Hid (Ints ((w.alloc (.cells #[.slice (A) n c, .int .i64 (p), .slice (A') n' c', .int .i64 (q), .slice (A2) n2 c2, .int .i64 (z)] 27)).alloc (.cells #[.slice none 0 0, .int .i64 0, .slice none 0 0, .int .i64 0, .slice none 0 0, .int .i64 0] 27)) M C A2 n2 R) := (g.alloc hC _).alloc (by first | omega | (simp; omega) | (simp; done)) _
  have X0 : Hid (Box ((w.alloc (.cells #[.slice (A) n c, .int .i64 (p), .slice (A') n' c', .int .i64 (q), .slice (A2) n2 c2, .int .i64 (z)] 27)).alloc (.cells #[.slice none 0 0, .int .i64 0, .slice none 0 0, .int .i64 0, .slice none 0 0, .int .i64 0] 27)) w.heap.size [.slice (A) n c, .int .i64 (p), .slice (A') n' c', .int .i64 (q), .slice (A2) n2 c2, .int .i64 (z)]) := (Box.new w 27 [.slice (A) n c, .int .i64 (p), .slice (A') n' c', .int .i64 (q), .slice (A2) n2 c2, .int .i64 (z)]).alloc _
  have R0 : Hid (Box ((w.alloc (.cells #[.slice (A) n c, .int .i64 (p), .slice (A') n' c', .int .i64 (q), .slice (A2) n2 c2, .int .i64 (z)] 27)).alloc (.cells #[.slice none 0 0, .int .i64 0, .slice none 0 0, .int .i64 0, .slice none 0 0, .int .i64 0] 27)) (w.heap.size + 1) [.slice none 0 0, .int .i64 0, .slice none 0 0, .int .i64 0, .slice none 0 0, .int .i64 0]) := by
    have hx := Box.new (w.alloc (.cells #[.slice (A) n c, .int .i64 (p), .slice (A') n' c', .int .i64 (q), .slice (A2) n2 c2, .int .i64 (z)] 27)) 27 [.slice none 0 0, .int .i64 0, .slice none 0 0, .int .i64 0, .slice none 0 0, .int .i64 0]
    rw [World.size_alloc] at hx
    exact hx
  have E0 : Hid (Below w.heap.size w ((w.alloc (.cells #[.slice (A) n c, .int .i64 (p), .slice (A') n' c', .int .i64 (q), .slice (A2) n2 c2, .int .i64 (z)] 27)).alloc (.cells #[.slice none 0 0, .int .i64 0, .slice none 0 0, .int .i64 0, .slice none 0 0, .int .i64 0] 27))) := (by go_grown : Below w.heap.size w _)
  have s0 : (((w.alloc (.cells #[.slice (A) n c, .int .i64 (p), .slice (A') n' c', .int .i64 (q), .slice (A2) n2 c2, .int .i64 (z)] 27)).alloc (.cells #[.slice none 0 0, .int .i64 0, .slice none 0 0, .int .i64 0, .slice none 0 0, .int .i64 0] 27))).heap.size = w.heap.size + 2 := by simp
  clear h h' g hE
  have x0 := (X0.out.2 0 _ rfl).1; have x1 := (X0.out.2 1 _ rfl).1; have x2 := (X0.out.2 2 _ rfl).1; have x3 := (X0.out.2 3 _ rfl).1; have x4 := (X0.out.2 4 _ rfl).1; have x5 := (X0.out.2 5 _ rfl).1
  go_enter Tryd.func16, Tryd.ntmps16
  go_wp2_with fail
  generalize ((w.alloc (.cells #[.slice (A) n c, .int .i64 (p), .slice (A') n' c', .int .i64 (q), .slice (A2) n2 c2, .int .i64 (z)] 27)).alloc (.cells #[.slice none 0 0, .int .i64 0, .slice none 0 0, .int .i64 0, .slice none 0 0, .int .i64 0] 27)) = w0 at *
  clear x0 x1 x2 x3 x4 x5
  refine (canWrite_any H1.out H2.out G1.out (by omega) (by omega) (by omega) hc).mono ?_
  rintro e w1 ⟨rfl, hb1⟩
  have s1 := hb1.size
  have E1 := Lib.hid (below_step hb1 E0.out (by omega))
  have X1 := Lib.hid (X0.out.below hb1 (by omega))
  have R1 := Lib.hid (R0.out.below hb1 (by omega))
  have I1 := Lib.hid (H1.out.below hb1 (by omega))
  have I2 := Lib.hid (H2.out.below hb1 (by omega))
  have G2 := Lib.hid (G1.out.below hb1 (by omega))
  clear hb1 H1 H2 G1 X0 R0 E0
  cases hg : goodW D p S q R z
  · have HO : Hid (flOut D p S q R z = (Rv.zero, 5)) := by show _ = _; simp [flOut, hg]
    clear hg
    have r0 := (R1.out.2 0 _ rfl).1; have r1 := (R1.out.2 1 _ rfl).1; have r2 := (R1.out.2 2 _ rfl).1; have r3 := (R1.out.2 3 _ rfl).1; have r4 := (R1.out.2 4 _ rfl).1; have r5 := (R1.out.2 5 _ rfl).1
    have g0 := (R1.out.2 0 _ rfl).2; have g1 := (R1.out.2 1 _ rfl).2; have g2 := (R1.out.2 2 _ rfl).2; have g3 := (R1.out.2 3 _ rfl).2; have g4 := (R1.out.2 4 _ rfl).2; have g5 := (R1.out.2 5 _ rfl).2
    go_wp2
    refine bodyPost_ret (v := .tuple #[.agg #[.slice none 0 0, .int .i64 0, .slice none 0 0, .int .i64 0, .slice none 0 0, .int .i64 0], .int .i64 5]) (by simp [results, Tryd.results16, go_sem, r0, r1, r2, r3, r4, r5, g0, g1, g2, g3, g4, g5]) rfl ?_
    rw [HO.out]
    refine Post2I.zero ?_
    (repeat (with_reducible refine below_set ?_ (by omega) _))
    exact E1.out
  · have HO : Hid (flOut D p S q R z = (wvOf S z (fuGo S R.length D p q.toNat R), (fuGo S R.length D p q.toNat R).st)) := by show _ = _; simp [flOut, hg]
    obtain ⟨k1, k2, k3, k4, k5, k6, k7, k8⟩ := goodW_start hg
    obtain ⟨q0, rfl⟩ := Int.eq_ofNat_of_zero_le k6
    rw [Int.toNat_natCast] at HO k1 k2
    obtain ⟨i1, i2, i3, i4, i5⟩ := fuGo_valid R.length D p q0 R k1 k4 (by omega)
    obtain ⟨T, hT⟩ : ∃ T, fuGo S R.length D p q0 R = T := ⟨_, rfl⟩
    rw [hT] at i1 i2 i3 i4 i5 HO
    have HT := Lib.hid hT
    have HV := Lib.hid k1
    have HA := Lib.hid k4
    have HI1 := Lib.hid i1
    have HI5 := Lib.hid i5
    have hn60 : n ≤ 60 := by rw [HL.out]; exact k7
    have hn12 : n' ≤ 12 := by rw [HL'.out]; exact k8
    have hn16 : n2 ≤ 16 := by rw [HG.out]; exact k3
    obtain ⟨_, _, _, hp, _⟩ := validD_iff.1 k1
    clear hT hg k1 k4 i1 i2 i5
    have x0 := (X1.out.2 0 _ rfl).1; have x1 := (X1.out.2 1 _ rfl).1; have x2 := (X1.out.2 2 _ rfl).1; have x3 := (X1.out.2 3 _ rfl).1; have x4 := (X1.out.2 4 _ rfl).1; have x5 := (X1.out.2 5 _ rfl).1
    go_wp2_with fail
    clear x0 x1 x2 x3 x4 x5
    refine (backlogOf_any I1.out I2.out G2.out (by omega) (by omega) (by omega) (by omega) (by omega) (by omega) (by unfold okInt; omega) (by unfold okInt; omega)).mono ?_
    rintro e w2 ⟨b, A3, n3, c3, A3', n3', c3', A4, n4, c4, rfl, ⟨hc3, hc3', hc4⟩, hb2, hbl, hx, h1, h2, h3, ha, ha1, ha2⟩
    have hbw := hx.lt
    have s2 := hb2.size
    have BK := Lib.hid (show BackAt w1.heap.size b A3 n3 c3 A3' n3' c3' D S z p q0 A4 n4 c4 R w1.heap.size b w1.heap.size b w2 from ⟨hx, ⟨h1, h2, h3⟩, ⟨.inr (Nat.le_refl _), .inr (Nat.le_refl _)⟩, ⟨hbl, Nat.le_refl _, Nat.le_refl _, by omega, by omega, s2⟩, ⟨hc3, hc4⟩, ⟨ha, ha1, ha2⟩⟩)
    have R2 := Lib.hid (R1.out.below hb2 (by omega))
    have E2 := Lib.hid (below_step hb2 E1.out (by omega))
    have HE2 := Lib.hid (HE0.out.below E2.out hEw)
    clear hb2 hx h1 h2 h3 ha ha1 ha2 R1 E1 I1 I2 G2 X1
    have hflush := flush_any BK.out HE2.out (by omega) HV.out k2 k3 HA.out
    rw [HT.out] at hflush
    have HF := Lib.hid hflush
    clear hflush
    go_wp2_with fail
    refine HF.out.mono ?_
    rintro e w3 ⟨A5, n5, c5, A6, n6, c6, M5, C5, M6, C6, rfl, ht, hbk⟩
    have s3 := ht.size
    have BK3 := Lib.hid hbk
    have R3 := Lib.hid (R2.out.turn ht (by omega) (by omega))
    have E3 : Hid (Below w.heap.size w w3) := E2.out.trans (ht.below (by omega) (by omega))
    have HE3 := Lib.hid (HE0.out.below E3.out hEw)
    clear ht hbk R2 E2 BK HF HE2
    go_wp2_with fail
    refine (writer_any BK3.out.1).mono ?_
    rintro e w8 ⟨rfl, hb8⟩
    have s8 := hb8.size
    have BK8 := Lib.hid (BK3.out.below hb8 (Nat.le_refl _))
    have R8 := Lib.hid (R3.out.below hb8 (by omega))
    have E8 := Lib.hid (below_step hb8 E3.out (by omega))
    have HE8 := Lib.hid (HE0.out.below E8.out hEw)
    clear hb8 BK3 R3 E3
    go_wp2_with fail
    refine (endOf_any HE8.out HI5.out).mono ?_
    rintro e w9 ⟨rfl, rfl⟩
    have r0 := (R8.out.2 0 _ rfl).1; have r1 := (R8.out.2 1 _ rfl).1; have r2 := (R8.out.2 2 _ rfl).1; have r3 := (R8.out.2 3 _ rfl).1; have r4 := (R8.out.2 4 _ rfl).1; have r5 := (R8.out.2 5 _ rfl).1
    have g0 := (R8.out.2 0 _ rfl).2; have g1 := (R8.out.2 1 _ rfl).2; have g2 := (R8.out.2 2 _ rfl).2; have g3 := (R8.out.2 3 _ rfl).2; have g4 := (R8.out.2 4 _ rfl).2; have g5 := (R8.out.2 5 _ rfl).2
    go_wp2
    refine bodyPost_ret (v := .tuple #[.agg #[.slice (A5) n5 c5, .int .i64 (T.p), .slice (A3') n3' c3', .int .i64 ((T.q : Int)), .slice (A6) n6 c6, .int .i64 (z)], .int .i64 T.st]) (by simp [results, Tryd.results16, go_sem, r0, r1, r2, r3, r4, r5, g0, g1, g2, g3, g4, g5]) rfl ?_
    rw [HO.out]
    refine w2_post (by (repeat (with_reducible refine below_set ?_ (by omega) _)); exact E8.out) (by omega) (BK8.out.sets (by omega)) HI1.out k5 hc3'
set_option maxHeartbeats 2000000 in
theorem cutW_any {more : List Value} {A A' : Option Addr} {n c n' c' b m : Nat} {D : List Int} {p q : Int} {w : World} {L B : Nat} (hX : Box w b (.slice A n c :: .int .i64 p :: .slice A' n' c' :: .int .i64 q :: more)) (h : Ints w L B A n D) (hB : B ≤ w.heap.size) (hn : n ≤ 1048576) (hm : m ≤ 60) :
    Calls Tryd.prog 70 #[.pointer (some ⟨b, 0, none⟩), .int .i64 (m : Int)] w (fun e w' => ∃ A1, e = .returned (.tuple #[]) ∧ Turn w.heap.size b w w' ∧ Ints w' w.heap.size w'.heap.size A1 m (cutL D m) ∧ Box w' b (.slice A1 m m :: .int .i64 p :: .slice A' n' c' :: .int .i64 q :: more)) := by
  have HL := Lib.hid h.len
  have hok := Lib.hid h.ok
  have HX := Lib.hid hX
  have hbw := hX.lt
  have hmk := run_make_row' (P := Tryd.prog) 23 3 (.int .i64 0) 8 Tryd.underlying23 infoInt rfl .i64 .i64 m (by omega) (by omega)
  have H1 := Lib.hid (h.alloc hB (.cells (madeCells #[.int .i64 0] m) 3))
  have x0 := (hX.2 0 _ rfl).1
  clear h hX
  go_enter Tryd.func70, Tryd.ntmps70
  go_wp2_with (with_reducible refine wpList_copy_splice (o := ⟨some _, _, _, _, _, _⟩) rfl _ _ 23 23 rfl 3 Tryd.underlying23 sizeInt _ _ _ _ _ _ rfl rfl w.heap.size 0 (madeCells #[.int .i64 0] m).toList 3 ?c1 ((D.take m).map (Value.int .i64)) ?c2 ?c3 ?c4 ?c5 w.heap.size w ?c6 (Nat.le_refl _) ?_)
  case c1 => simpa using Go.Deep.blk_alloc_new w (.cells (madeCells #[.int .i64 0] m) 3)
  case c2 => rw [List.length_map, List.length_take, ← HL.out]; show min m n = min n m; omega
  case c3 => exact fun hp => H1.out.cellsTake (by omega)
  case c4 =>
    have hz : (madeCells #[Value.int .i64 0] m).toList.length = m := by rw [Array.length_toList, size_madeCells]
    rw [hz, List.length_map, List.length_take]; omega
  case c5 => exact fun v hv => by obtain ⟨x, _, rfl⟩ := List.mem_map.1 hv; rfl
  case c6 => go_grown
  intro w1 hw1 hb1
  have HW1 : Hid (w1.heap[w.heap.size]? = some (.cells ((cutL D m).map (Value.int .i64)).toArray 3 (0, 0))) := by
    have h := hw1.out
    rw [← splice_cut, List.map_take]
    exact h
  have HB1 := Lib.hid hb1
  have s1 : w.heap.size < w1.heap.size := (Array.getElem?_eq_some_iff.1 HW1.out).1
  have X1 := Lib.hid (HX.out.below hb1 hbw)
  have K1 : Hid (Ints w1 w.heap.size w1.heap.size (some ⟨w.heap.size, 0, none⟩) m (cutL D m)) := by
    have h := Ints.of_cells (lo := w.heap.size) (hi := w1.heap.size) HW1.out (by rw [cutL_len]; omega) (cutL_ok hok.out) (Nat.le_refl _) s1
    rw [cutL_len] at h
    exact h
  clear hw1 hb1 x0 hmk H1 HX
  have x0 := (X1.out.2 0 _ rfl).1
  have f0 := (X1.out.2 0 _ rfl).2
  go_wp2
  refine bodyPost_end (v := .tuple #[]) (by simp [results, Tryd.results70, go_sem]) rfl ?_
  refine ⟨some ⟨w.heap.size, 0, none⟩, rfl, (Turn.of_below HB1.out (Nat.le_refl _)).put _, ?_, ?_⟩
  · simp only [World.size_setCell]
    exact K1.out.set_ (Or.inl hbw) _
  · have hx := X1.out.put (i := 0) (by simp) (.slice (some ⟨w.heap.size, 0, none⟩) m m)
    simpa using hx
set_option maxHeartbeats 8000000 in
theorem CutWriter_x {A A' A2 : Option Addr} {n c n' c' n2 c2 : Nat} {D S R : List Int} {p q z : Int} {w : World} {L L' B B' M C : Nat} {N : Int} {E : Nat} {a0 a1 a2 : Addr} (hE : Errs w E a0 a1 a2) (hEw : E ≤ w.heap.size) (h : Ints w L B A n D) (h' : Ints w L' B' A' n' S) (g : Ints w M C A2 n2 R) (hB : B ≤ w.heap.size) (hB' : B' ≤ w.heap.size) (hC : C ≤ w.heap.size) (hc : n ≤ c) (hc1 : n' ≤ c') (hc2 : n2 ≤ c2) (_hn : n ≤ 1048576) (_hn1 : n' ≤ 1048576) (_hn2 : n2 ≤ 1048576) (_hN : okInt N) :
    Calls Tryd.prog 27 #[.agg #[.slice (A) n c, .int .i64 (p), .slice (A') n' c', .int .i64 (q), .slice (A2) n2 c2, .int .i64 (z)], .int .i64 N] w (Post2I (ctwOut D p S q R z N) w) := by
  have HG := Lib.hid g.len
  have HL := Lib.hid h.len
  have HL' := Lib.hid h'.len
  have HE0 := Lib.hid hE
  have H1 : Hid (Ints ((w.alloc (.cells #[.slice (A) n c, .int .i64 (p), .slice (A') n' c', .int .i64 (q), .slice (A2) n2 c2, .int .i64 (z)] 27)).alloc (.cells #[.slice none 0 0, .int .i64 0, .slice none 0 0, .int .i64 0, .slice none 0 0, .int .i64 0] 27)) L B A n D) := (h.alloc hB _).alloc (by first | omega | (simp; omega) | (simp; done)) _
  have H2 : Hid (Ints ((w.alloc (.cells #[.slice (A) n c, .int .i64 (p), .slice (A') n' c', .int .i64 (q), .slice (A2) n2 c2, .int .i64 (z)] 27)).alloc (.cells #[.slice none 0 0, .int .i64 0, .slice none 0 0, .int .i64 0, .slice none 0 0, .int .i64 0] 27)) L' B' A' n' S) := (h'.alloc hB' _).alloc (by first | omega | (simp; omega) | (simp; done)) _
  have G1 : Hid (Ints ((w.alloc (.cells #[.slice (A) n c, .int .i64 (p), .slice (A') n' c', .int .i64 (q), .slice (A2) n2 c2, .int .i64 (z)] 27)).alloc (.cells #[.slice none 0 0, .int .i64 0, .slice none 0 0, .int .i64 0, .slice none 0 0, .int .i64 0] 27)) M C A2 n2 R) := (g.alloc hC _).alloc (by first | omega | (simp; omega) | (simp; done)) _
  have X0 : Hid (Box ((w.alloc (.cells #[.slice (A) n c, .int .i64 (p), .slice (A') n' c', .int .i64 (q), .slice (A2) n2 c2, .int .i64 (z)] 27)).alloc (.cells #[.slice none 0 0, .int .i64 0, .slice none 0 0, .int .i64 0, .slice none 0 0, .int .i64 0] 27)) w.heap.size [.slice (A) n c, .int .i64 (p), .slice (A') n' c', .int .i64 (q), .slice (A2) n2 c2, .int .i64 (z)]) := (Box.new w 27 [.slice (A) n c, .int .i64 (p), .slice (A') n' c', .int .i64 (q), .slice (A2) n2 c2, .int .i64 (z)]).alloc _
  have R0 : Hid (Box ((w.alloc (.cells #[.slice (A) n c, .int .i64 (p), .slice (A') n' c', .int .i64 (q), .slice (A2) n2 c2, .int .i64 (z)] 27)).alloc (.cells #[.slice none 0 0, .int .i64 0, .slice none 0 0, .int .i64 0, .slice none 0 0, .int .i64 0] 27)) (w.heap.size + 1) [.slice none 0 0, .int .i64 0, .slice none 0 0, .int .i64 0, .slice none 0 0, .int .i64 0]) := by
    have hx := Box.new (w.alloc (.cells #[.slice (A) n c, .int .i64 (p), .slice (A') n' c', .int .i64 (q), .slice (A2) n2 c2, .int .i64 (z)] 27)) 27 [.slice none 0 0, .int .i64 0, .slice none 0 0, .int .i64 0, .slice none 0 0, .int .i64 0]
    rw [World.size_alloc] at hx
    exact hx
  have E0 : Hid (Below w.heap.size w ((w.alloc (.cells #[.slice (A) n c, .int .i64 (p), .slice (A') n' c', .int .i64 (q), .slice (A2) n2 c2, .int .i64 (z)] 27)).alloc (.cells #[.slice none 0 0, .int .i64 0, .slice none 0 0, .int .i64 0, .slice none 0 0, .int .i64 0] 27))) := (by go_grown : Below w.heap.size w _)
  have s0 : (((w.alloc (.cells #[.slice (A) n c, .int .i64 (p), .slice (A') n' c', .int .i64 (q), .slice (A2) n2 c2, .int .i64 (z)] 27)).alloc (.cells #[.slice none 0 0, .int .i64 0, .slice none 0 0, .int .i64 0, .slice none 0 0, .int .i64 0] 27))).heap.size = w.heap.size + 2 := by simp
  clear h h' g hE
  have x0 := (X0.out.2 0 _ rfl).1; have x1 := (X0.out.2 1 _ rfl).1; have x2 := (X0.out.2 2 _ rfl).1; have x3 := (X0.out.2 3 _ rfl).1; have x4 := (X0.out.2 4 _ rfl).1; have x5 := (X0.out.2 5 _ rfl).1
  go_enter Tryd.func27, Tryd.ntmps27
  go_wp2_with fail
  generalize ((w.alloc (.cells #[.slice (A) n c, .int .i64 (p), .slice (A') n' c', .int .i64 (q), .slice (A2) n2 c2, .int .i64 (z)] 27)).alloc (.cells #[.slice none 0 0, .int .i64 0, .slice none 0 0, .int .i64 0, .slice none 0 0, .int .i64 0] 27)) = w0 at *
  clear x0 x1 x2 x3 x4 x5
  refine (canWrite_any H1.out H2.out G1.out (by omega) (by omega) (by omega) hc).mono ?_
  rintro e w1 ⟨rfl, hb1⟩
  have s1 := hb1.size
  have E1 := Lib.hid (below_step hb1 E0.out (by omega))
  have X1 := Lib.hid (X0.out.below hb1 (by omega))
  have R1 := Lib.hid (R0.out.below hb1 (by omega))
  have I1 := Lib.hid (H1.out.below hb1 (by omega))
  have I2 := Lib.hid (H2.out.below hb1 (by omega))
  have G2 := Lib.hid (G1.out.below hb1 (by omega))
  clear hb1 H1 H2 G1 X0 R0 E0
  cases hg : goodW D p S q R z
  · have HO : Hid (ctwOut D p S q R z N = (Rv.zero, 5)) := by show _ = _; simp [ctwOut, hg]
    clear hg
    have r0 := (R1.out.2 0 _ rfl).1; have r1 := (R1.out.2 1 _ rfl).1; have r2 := (R1.out.2 2 _ rfl).1; have r3 := (R1.out.2 3 _ rfl).1; have r4 := (R1.out.2 4 _ rfl).1; have r5 := (R1.out.2 5 _ rfl).1
    have g0 := (R1.out.2 0 _ rfl).2; have g1 := (R1.out.2 1 _ rfl).2; have g2 := (R1.out.2 2 _ rfl).2; have g3 := (R1.out.2 3 _ rfl).2; have g4 := (R1.out.2 4 _ rfl).2; have g5 := (R1.out.2 5 _ rfl).2
    go_wp2
    refine bodyPost_ret (v := .tuple #[.agg #[.slice none 0 0, .int .i64 0, .slice none 0 0, .int .i64 0, .slice none 0 0, .int .i64 0], .int .i64 5]) (by simp [results, Tryd.results27, go_sem, r0, r1, r2, r3, r4, r5, g0, g1, g2, g3, g4, g5]) rfl ?_
    rw [HO.out]
    refine Post2I.zero ?_
    (repeat (with_reducible refine below_set ?_ (by omega) _))
    exact E1.out
  · cases hN : inB N 0 60
    · have HO : Hid (ctwOut D p S q R z N = (Rv.zero, 5)) := by show _ = _; simp [ctwOut, hN]
      clear hg
      have r0 := (R1.out.2 0 _ rfl).1; have r1 := (R1.out.2 1 _ rfl).1; have r2 := (R1.out.2 2 _ rfl).1; have r3 := (R1.out.2 3 _ rfl).1; have r4 := (R1.out.2 4 _ rfl).1; have r5 := (R1.out.2 5 _ rfl).1
      have g0 := (R1.out.2 0 _ rfl).2; have g1 := (R1.out.2 1 _ rfl).2; have g2 := (R1.out.2 2 _ rfl).2; have g3 := (R1.out.2 3 _ rfl).2; have g4 := (R1.out.2 4 _ rfl).2; have g5 := (R1.out.2 5 _ rfl).2
      go_wp2_with (go_at_call 51; refine (isIn_any).mono ?_; rintro e w' ⟨rfl, rfl⟩)
      refine bodyPost_ret (v := .tuple #[.agg #[.slice none 0 0, .int .i64 0, .slice none 0 0, .int .i64 0, .slice none 0 0, .int .i64 0], .int .i64 5]) (by simp [results, Tryd.results27, go_sem, r0, r1, r2, r3, r4, r5, g0, g1, g2, g3, g4, g5]) rfl ?_
      rw [HO.out]
      refine Post2I.zero ?_
      (repeat (with_reducible refine below_set ?_ (by omega) _))
      exact E1.out
    · have HO : Hid (ctwOut D p S q R z N = if (fuGo S R.length D p q.toNat R).st = 0 then (wvOf S z { fuGo S R.length D p q.toNat R with d := cutL (fuGo S R.length D p q.toNat R).d N.toNat }, 0) else (wvOf S z (fuGo S R.length D p q.toNat R), (fuGo S R.length D p q.toNat R).st)) := by show _ = _; simp [ctwOut, hg, hN]
      obtain ⟨hN0, hN1⟩ := inB_iff.1 hN
      obtain ⟨k, rfl⟩ := Int.eq_ofNat_of_zero_le hN0
      rw [Int.toNat_natCast] at HO
      obtain ⟨k1, k2, k3, k4, k5, k6, k7, k8⟩ := goodW_start hg
      obtain ⟨q0, rfl⟩ := Int.eq_ofNat_of_zero_le k6
      rw [Int.toNat_natCast] at HO k1 k2
      obtain ⟨i1, i2, i3, i4, i5⟩ := fuGo_valid R.length D p q0 R k1 k4 (by omega)
      obtain ⟨T, hT⟩ : ∃ T, fuGo S R.length D p q0 R = T := ⟨_, rfl⟩
      rw [hT] at i1 i2 i3 i4 i5 HO
      have HT := Lib.hid hT
      have HV := Lib.hid k1
      have HA := Lib.hid k4
      have HI1 := Lib.hid i1
      have HI5 := Lib.hid i5
      have hn60 : n ≤ 60 := by rw [HL.out]; exact k7
      have hn12 : n' ≤ 12 := by rw [HL'.out]; exact k8
      have hn16 : n2 ≤ 16 := by rw [HG.out]; exact k3
      obtain ⟨_, _, _, hp, _⟩ := validD_iff.1 k1
      clear hT hg k1 k4 i1 i2 i5
      have x0 := (X1.out.2 0 _ rfl).1; have x1 := (X1.out.2 1 _ rfl).1; have x2 := (X1.out.2 2 _ rfl).1; have x3 := (X1.out.2 3 _ rfl).1; have x4 := (X1.out.2 4 _ rfl).1; have x5 := (X1.out.2 5 _ rfl).1
      go_wp2_with (go_at_call 51; refine (isIn_any).mono ?_; rintro e w' ⟨rfl, rfl⟩)
      clear x0 x1 x2 x3 x4 x5
      refine (backlogOf_any I1.out I2.out G2.out (by omega) (by omega) (by omega) (by omega) (by omega) (by omega) (by unfold okInt; omega) (by unfold okInt; omega)).mono ?_
      rintro e w2 ⟨b, A3, n3, c3, A3', n3', c3', A4, n4, c4, rfl, ⟨hc3, hc3', hc4⟩, hb2, hbl, hx, h1, h2, h3, ha, ha1, ha2⟩
      have hbw := hx.lt
      have s2 := hb2.size
      have BK := Lib.hid (show BackAt w1.heap.size b A3 n3 c3 A3' n3' c3' D S z p q0 A4 n4 c4 R w1.heap.size b w1.heap.size b w2 from ⟨hx, ⟨h1, h2, h3⟩, ⟨.inr (Nat.le_refl _), .inr (Nat.le_refl _)⟩, ⟨hbl, Nat.le_refl _, Nat.le_refl _, by omega, by omega, s2⟩, ⟨hc3, hc4⟩, ⟨ha, ha1, ha2⟩⟩)
      have R2 := Lib.hid (R1.out.below hb2 (by omega))
      have E2 := Lib.hid (below_step hb2 E1.out (by omega))
      have HE2 := Lib.hid (HE0.out.below E2.out hEw)
      clear hb2 hx h1 h2 h3 ha ha1 ha2 R1 E1 I1 I2 G2 X1
      have hflush := flush_any BK.out HE2.out (by omega) HV.out k2 k3 HA.out
      rw [HT.out] at hflush
      have HF := Lib.hid hflush
      clear hflush
      go_wp2_with fail
      refine HF.out.mono ?_
      rintro e w3 ⟨A5, n5, c5, A6, n6, c6, M5, C5, M6, C6, rfl, ht, hbk⟩
      have s3 := ht.size
      have BK3 := Lib.hid hbk
      have R3 := Lib.hid (R2.out.turn ht (by omega) (by omega))
      have E3 : Hid (Below w.heap.size w w3) := E2.out.trans (ht.below (by omega) (by omega))
      have HE3 := Lib.hid (HE0.out.below E3.out hEw)
      clear ht hbk R2 E2 BK HF HE2
      by_cases hst : T.st = 0
      · have HST := Lib.hid hst
        rw [if_pos hst] at HO
        rw [show errV a0 a1 a2 T.st = .nilIface from by rw [hst]; rfl]
        clear hst
        have hn5 : n5 ≤ 1048576 := by have h1 := BK3.out.2.1.1.len; have h2 := bytesB_le (validD_iff.1 HI1.out).1; omega
        have hcut := cutW_any (more := [.slice A6 n6 c6, .int .i64 z]) (m := k) BK3.out.1 BK3.out.2.1.1 BK3.out.2.2.2.1.2.2.2.1 hn5 (by omega)
        have HC := Lib.hid hcut
        clear hcut
        go_wp2_with fail
        refine HC.out.mono ?_
        rintro e w4 ⟨A7, rfl, ht4, hi4, hx4⟩
        have s4 := ht4.size
        obtain ⟨b1, ⟨b2, b3, b4⟩, ⟨b5, b5'⟩, ⟨b6, b7, b8, b9, b10, bms⟩, ⟨b11, b12⟩, b13, b14, b15⟩ := BK3.out
        have BK4 := Lib.hid (show BackAt w1.heap.size b A7 k k A3' n3' c3' (cutL T.d k) S z T.p T.q A6 n6 c6 T.r w3.heap.size w4.heap.size M6 C6 w4 from ⟨hx4, ⟨hi4, b3.turn ht4 (by omega) (.inr (Nat.le_refl _)), b4.turn ht4 (by omega) b5'⟩, ⟨.inl (by omega), b5'⟩, ⟨b6, by omega, b8, Nat.le_refl _, by omega, s4⟩, ⟨Nat.le_refl _, b12⟩, ⟨(Apart.of_le b3 hi4 (by omega)).symm, Apart.of_le b4 hi4 (by omega), b15⟩⟩)
        have R4 := Lib.hid (R3.out.turn ht4 (by omega) (by omega))
        have E4 : Hid (Below w.heap.size w w4) := E3.out.trans (ht4.below (by omega) (by omega))
        clear ht4 hi4 hx4 b1 b2 b3 b4 b5 b5' b7 b8 b9 b10 bms b11 b12 b13 b14 b15 HC R3 E3 HE3
        go_wp2_with fail
        refine (writer_any BK4.out.1).mono ?_
        rintro e w8 ⟨rfl, hb8⟩
        have s8 := hb8.size
        have BK8 := Lib.hid (BK4.out.below hb8 (Nat.le_refl _))
        have R8 := Lib.hid (R4.out.below hb8 (by omega))
        have E8 := Lib.hid (below_step hb8 E4.out (by omega))
        have HE8 := Lib.hid (HE0.out.below E8.out hEw)
        clear hb8 BK4 R4 E4
        go_wp2_with fail
        refine (endOf_any HE8.out (st := 0) (.inl rfl)).mono ?_
        rintro e w9 ⟨rfl, rfl⟩
        have r0 := (R8.out.2 0 _ rfl).1; have r1 := (R8.out.2 1 _ rfl).1; have r2 := (R8.out.2 2 _ rfl).1; have r3 := (R8.out.2 3 _ rfl).1; have r4 := (R8.out.2 4 _ rfl).1; have r5 := (R8.out.2 5 _ rfl).1
        have g0 := (R8.out.2 0 _ rfl).2; have g1 := (R8.out.2 1 _ rfl).2; have g2 := (R8.out.2 2 _ rfl).2; have g3 := (R8.out.2 3 _ rfl).2; have g4 := (R8.out.2 4 _ rfl).2; have g5 := (R8.out.2 5 _ rfl).2
        go_wp2
        refine bodyPost_ret (v := .tuple #[.agg #[.slice (A7) k k, .int .i64 (T.p), .slice (A3') n3' c3', .int .i64 ((T.q : Int)), .slice (A6) n6 c6, .int .i64 (z)], .int .i64 0]) (by simp [results, Tryd.results27, go_sem, r0, r1, r2, r3, r4, r5, g0, g1, g2, g3, g4, g5]) rfl ?_
        rw [HO.out]
        refine w2_post (T := { T with d := cutL T.d k }) (by (repeat (with_reducible refine below_set ?_ (by omega) _)); exact E8.out) (by omega) (BK8.out.sets (by omega)) ?_ k5 hc3'
        obtain ⟨v1, v2, v3, v4, v5⟩ := validD_iff.1 HI1.out
        refine validD_iff.2 ⟨?_, v2, v3, v4, v5⟩
        show bytesB (cutL T.d k) = true
        unfold bytesB
        rw [Bool.and_eq_true]
        refine ⟨decide_eq_true (by rw [cutL_len]; omega), allB_iff.2 fun x hx => ?_⟩
        unfold cutL at hx
        rcases List.mem_append.1 hx with h | h
        · exact allB_iff.1 (bytesB_all v1) x (List.mem_of_mem_take h)
        · rw [List.eq_of_mem_replicate h]; omega
      · obtain ⟨ae, hae⟩ : ∃ ae, errV a0 a1 a2 T.st = errAt ae := by
          rcases HI5.out with h | h | h | h
          · exact absurd h hst
          · exact ⟨a0, by rw [h]; rfl⟩
          · exact ⟨a1, by rw [h]; rfl⟩
          · exact ⟨a2, by rw [h]; rfl⟩
        rw [if_neg hst] at HO
        rw [hae]
        have HAE := Lib.hid hae
        have HEND : Hid (∀ wx : World, Errs wx E a0 a1 a2 → Calls Tryd.prog 58 #[errAt ae] wx fun e w' => e = .returned (.int .i64 T.st) ∧ wx = w') := fun wx h => by
          have h2 := endOf_any h HI5.out
          rw [HAE.out] at h2
          exact h2
        clear hst hae
        go_wp2_with fail
        refine (writer_any BK3.out.1).mono ?_
        rintro e w8 ⟨rfl, hb8⟩
        have s8 := hb8.size
        have BK8 := Lib.hid (BK3.out.below hb8 (Nat.le_refl _))
        have R8 := Lib.hid (R3.out.below hb8 (by omega))
        have E8 := Lib.hid (below_step hb8 E3.out (by omega))
        have HE8 := Lib.hid (HE0.out.below E8.out hEw)
        clear hb8 BK3 R3 E3
        go_wp2_with fail
        refine (HEND.out _ HE8.out).mono ?_
        rintro e w9 ⟨rfl, rfl⟩
        have r0 := (R8.out.2 0 _ rfl).1; have r1 := (R8.out.2 1 _ rfl).1; have r2 := (R8.out.2 2 _ rfl).1; have r3 := (R8.out.2 3 _ rfl).1; have r4 := (R8.out.2 4 _ rfl).1; have r5 := (R8.out.2 5 _ rfl).1
        have g0 := (R8.out.2 0 _ rfl).2; have g1 := (R8.out.2 1 _ rfl).2; have g2 := (R8.out.2 2 _ rfl).2; have g3 := (R8.out.2 3 _ rfl).2; have g4 := (R8.out.2 4 _ rfl).2; have g5 := (R8.out.2 5 _ rfl).2
        go_wp2
        refine bodyPost_ret (v := .tuple #[.agg #[.slice (A5) n5 c5, .int .i64 (T.p), .slice (A3') n3' c3', .int .i64 ((T.q : Int)), .slice (A6) n6 c6, .int .i64 (z)], .int .i64 T.st]) (by simp [results, Tryd.results27, go_sem, r0, r1, r2, r3, r4, r5, g0, g1, g2, g3, g4, g5]) rfl ?_
        rw [HO.out]
        refine w2_post (by (repeat (with_reducible refine below_set ?_ (by omega) _)); exact E8.out) (by omega) (BK8.out.sets (by omega)) HI1.out k5 hc3'
end Go.Proofs.YtdgfcbnfhengiaaDoor
