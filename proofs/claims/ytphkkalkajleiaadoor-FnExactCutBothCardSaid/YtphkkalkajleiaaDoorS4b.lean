/- Contracts of files that are read and written, the model's: what is valid; NewBoth, TellBoth, PlainOf. -/
import Derived.Test.YtphkkalkajleiaaDoorC4b
import Derived.Test.YtphkkalkajleiaaDoorS4a
import Derived.Test.YtphkkalkajleiaaDoorS2a
namespace Go.Proofs.YtphkkalkajleiaaDoor
open Go.ChangeShapes Go.WideShapes Go.ChangeAt Go.RowKit
set_option linter.unusedSimpArgs false
set_option linter.unusedVariables false
set_option maxRecDepth 10000

set_option maxHeartbeats 2000000 in
theorem validBoth_any {A A' A2 A3 : Option Addr} {n c n' c' n2 c2 n3 c3 : Nat} {D S R Q : List Int} {p q z : Int} {w : World} {L L' B B' M C U V : Nat} (h : Ints w L B A n D) (h' : Ints w L' B' A' n' S) (g : Ints w M C A2 n2 R) (j : Ints w U V A3 n3 Q) (hB : B ≤ w.heap.size) (hB' : B' ≤ w.heap.size) (hC : C ≤ w.heap.size) (hV : V ≤ w.heap.size) :
    Calls Tryd.prog 104 #[.agg #[.slice (A) n c, .int .i64 (p), .slice (A') n' c', .int .i64 (q), .slice (A2) n2 c2, .slice (A3) n3 c3, .int .i64 (z)]] w (BoolB (validB D p S q R Q z) w) := by
  have HQ := Lib.hid j.len
  have HG := Lib.hid g.len
  have HL := Lib.hid h.len
  have HL' := Lib.hid h'.len
  have H10 := Lib.hid (h.alloc hB (.cells #[.slice (A) n c, .int .i64 (p), .slice (A') n' c', .int .i64 (q), .slice (A2) n2 c2, .slice (A3) n3 c3, .int .i64 (z)] 51))
  have H20 := Lib.hid (h'.alloc hB' (.cells #[.slice (A) n c, .int .i64 (p), .slice (A') n' c', .int .i64 (q), .slice (A2) n2 c2, .slice (A3) n3 c3, .int .i64 (z)] 51))
  have G0 := Lib.hid (g.alloc hC (.cells #[.slice (A) n c, .int .i64 (p), .slice (A') n' c', .int .i64 (q), .slice (A2) n2 c2, .slice (A3) n3 c3, .int .i64 (z)] 51))
  have J0 := Lib.hid (j.alloc hV (.cells #[.slice (A) n c, .int .i64 (p), .slice (A') n' c', .int .i64 (q), .slice (A2) n2 c2, .slice (A3) n3 c3, .int .i64 (z)] 51))
  have X0 := Lib.hid (Box.new w 51 [.slice (A) n c, .int .i64 (p), .slice (A') n' c', .int .i64 (q), .slice (A2) n2 c2, .slice (A3) n3 c3, .int .i64 (z)])
  have E0 : Hid (Below w.heap.size w (w.alloc (.cells #[.slice (A) n c, .int .i64 (p), .slice (A') n' c', .int .i64 (q), .slice (A2) n2 c2, .slice (A3) n3 c3, .int .i64 (z)] 51))) := (by go_grown : Below w.heap.size w _)
  have s0 : (w.alloc (.cells #[.slice (A) n c, .int .i64 (p), .slice (A') n' c', .int .i64 (q), .slice (A2) n2 c2, .slice (A3) n3 c3, .int .i64 (z)] 51)).heap.size = w.heap.size + 1 := by simp
  clear h h' g j
  have x0 := (X0.out.2 0 _ rfl).1; have x1 := (X0.out.2 1 _ rfl).1; have x2 := (X0.out.2 2 _ rfl).1; have x3 := (X0.out.2 3 _ rfl).1; have x4 := (X0.out.2 4 _ rfl).1; have x5 := (X0.out.2 5 _ rfl).1; have x6 := (X0.out.2 6 _ rfl).1
  go_enter Tryd.func104, Tryd.ntmps104
  go_wp2_with fail
  generalize w.alloc (.cells #[.slice (A) n c, .int .i64 (p), .slice (A') n' c', .int .i64 (q), .slice (A2) n2 c2, .slice (A3) n3 c3, .int .i64 (z)] 51) = w0 at *
  clear x0 x1 x2 x3 x4 x5 x6
  refine (sValidReader0_any H10.out H20.out G0.out (by omega) (by omega) (by omega)).mono ?_
  rintro e w1 ⟨rfl, hb1⟩
  have s1 := hb1.size
  have E1 := Lib.hid (below_step hb1 E0.out (by omega))
  have X1 := Lib.hid (X0.out.below hb1 (by omega))
  have H11 := Lib.hid (H10.out.below hb1 (by omega))
  have H21 := Lib.hid (H20.out.below hb1 (by omega))
  have G1 := Lib.hid (G0.out.below hb1 (by omega))
  have J1 := Lib.hid (J0.out.below hb1 (by omega))
  clear hb1 H10 H20 G0 J0 X0 E0
  have x0 := (X1.out.2 0 _ rfl).1; have x1 := (X1.out.2 1 _ rfl).1; have x2 := (X1.out.2 2 _ rfl).1; have x3 := (X1.out.2 3 _ rfl).1; have x4 := (X1.out.2 4 _ rfl).1; have x5 := (X1.out.2 5 _ rfl).1; have x6 := (X1.out.2 6 _ rfl).1
  cases hv : validR D p S q R z
  · go_wp2
    go_ret
    exact ⟨ret_bool (by simp [validB, hv]), E1.out⟩
  · have HV := Lib.hid hv
    clear hv
    go_wp2_with fail
    clear x0 x1 x2 x3 x4 x5 x6
    refine (sValidWriter0_any H11.out H21.out J1.out (by omega) (by omega) (by omega)).mono ?_
    rintro e w3 ⟨rfl, hb3⟩
    have s3 := hb3.size
    have E3 := Lib.hid (below_step hb3 E1.out (by omega))
    have X3 := Lib.hid (X1.out.below hb3 (by omega))
    have H13 := Lib.hid (H11.out.below hb3 (by omega))
    have H23 := Lib.hid (H21.out.below hb3 (by omega))
    have G3 := Lib.hid (G1.out.below hb3 (by omega))
    have J3 := Lib.hid (J1.out.below hb3 (by omega))
    clear hb3 H11 H21 G1 J1 X1 E1
    have x0 := (X3.out.2 0 _ rfl).1; have x1 := (X3.out.2 1 _ rfl).1; have x2 := (X3.out.2 2 _ rfl).1; have x3 := (X3.out.2 3 _ rfl).1; have x4 := (X3.out.2 4 _ rfl).1; have x5 := (X3.out.2 5 _ rfl).1; have x6 := (X3.out.2 6 _ rfl).1
    cases hw : validW D p S q Q z
    · go_wp2
      go_ret
      exact ⟨ret_bool (by simp [validB, hw]), E3.out⟩
    · have HW := Lib.hid hw
      clear hw
      by_cases h2 : n2 = 0
      · have HF : Hid (validB D p S q R Q z = true) := by
          show _ = _
          have := HG.out
          simp [validB, HV.out, HW.out, ← this, h2]
        subst h2
        go_wp2
        go_ret
        exact ⟨ret_bool HF.out.symm, E3.out⟩
      · have h2z : ((n2 : Int) == 0) = false := by simp; omega
        by_cases h3 : n3 = 0
        · have HF : Hid (validB D p S q R Q z = true) := by
            show _ = _
            have := HQ.out
            simp [validB, HV.out, HW.out, ← this, h3]
          subst h3
          go_wp2
          go_ret
          exact ⟨ret_bool HF.out.symm, E3.out⟩
        · have h3z : ((n3 : Int) == 0) = false := by simp; omega
          have HF : Hid (validB D p S q R Q z = false) := by
            show _ = _
            have hq := HQ.out
            have hg := HG.out
            have a1 : ¬ R.length = 0 := by omega
            have a2 : ¬ Q.length = 0 := by omega
            unfold validB
            rw [decide_eq_false a1, decide_eq_false a2]
            simp
          go_wp2
          go_ret
          exact ⟨ret_bool HF.out.symm, E3.out⟩
set_option maxHeartbeats 1000000 in
theorem tellBoth_any {A A' A2 A3 : Option Addr} {n c n' c' n2 c2 n3 c3 : Nat} {p q z : Int} {w : World} (hp : 0 ≤ p ∧ p ≤ 60) (hn2 : n2 ≤ 60) (hn3 : n3 ≤ 60) :
    Calls Tryd.prog 111 #[.agg #[.slice (A) n c, .int .i64 (p), .slice (A') n' c', .int .i64 (q), .slice (A2) n2 c2, .slice (A3) n3 c3, .int .i64 (z)]] w (IntB (p - (n2 : Int) + (n3 : Int)) w) := by
  have X0 := Lib.hid (Box.new w 51 [.slice (A) n c, .int .i64 (p), .slice (A') n' c', .int .i64 (q), .slice (A2) n2 c2, .slice (A3) n3 c3, .int .i64 (z)])
  have hw1 : IntKind.i64.wrap (p - (n2 : Int)) = p - (n2 : Int) := IntWalk.i64_in _ (by omega)
  have hw2 : IntKind.i64.wrap (p - (n2 : Int) + (n3 : Int)) = p - (n2 : Int) + (n3 : Int) := IntWalk.i64_in _ (by omega)
  have x0 := (X0.out.2 0 _ rfl).1; have x1 := (X0.out.2 1 _ rfl).1; have x2 := (X0.out.2 2 _ rfl).1; have x3 := (X0.out.2 3 _ rfl).1; have x4 := (X0.out.2 4 _ rfl).1; have x5 := (X0.out.2 5 _ rfl).1; have x6 := (X0.out.2 6 _ rfl).1
  go_enter Tryd.func111, Tryd.ntmps111
  go_wp2
  go_ret
  exact ⟨rfl, by go_grown⟩
end Go.Proofs.YtphkkalkajleiaaDoor
