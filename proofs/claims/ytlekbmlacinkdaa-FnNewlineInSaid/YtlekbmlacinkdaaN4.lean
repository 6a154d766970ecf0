/- impl's functions of newlines. -/
import Derived.Test.YtlekbmlacinkdaaN3
import Derived.Test.YtlekbmlacinkdaaS1d
namespace Go.Proofs.Ytlekbmlacinkdaa
open Go.ChangeShapes Go.WideShapes Go.ChangeAt Go.RowKit
set_option linter.unusedSimpArgs false
set_option linter.unusedVariables false
set_option maxRecDepth 100000

/-- What NewlineIn gives: a state and bytes. -/
def niOk (s : Int) (xs : List Int) : Bool := inB s 0 7 && bytesB xs
def niH (held f : Bool) (s : Int) (xs : List Int) : Bool := niOk s xs && (nlH held xs && !f)
def niS (held f : Bool) (s : Int) (xs : List Int) : Int := if niOk s xs then nlS f held s xs else 0
def niL (held f : Bool) (s : Int) (xs : List Int) : List Int := if niOk s xs then nlM f held xs else []
theorem ni_yes {held f : Bool} {s : Int} {xs : List Int} (h : niOk s xs = true) : niH held f s xs = (nlH held xs && !f) ∧ niS held f s xs = nlS f held s xs ∧ niL held f s xs = nlM f held xs := by simp [niH, niS, niL, h]
theorem ni_no {held f : Bool} {s : Int} {xs : List Int} (h : niOk s xs = false) : niH held f s xs = false ∧ niS held f s xs = 0 ∧ niL held f s xs = [] := by simp [niH, niS, niL, h]
def nnOut (held : Bool) (s : Int) : Int := if inB s 0 7 then 2 * s + (if held then 1 else 0) else -1
def ceOut (xs : List Int) : Int := if bytesB xs then (((nlM true false xs).count 10 : Nat) : Int) else -1
def eiOut (xs : List Int) : Int := if bytesB xs then nlS true false 0 xs else -1
theorem count_snoc {xs : List Int} {k : Nat} {x : Int} (h : xs[k]? = some x) : (xs.take (k + 1)).count 10 = (xs.take k).count 10 + (if x = 10 then 1 else 0) := by
  rw [take_snoc h, List.count_append]
  congr 1
  by_cases e : x = 10
  · subst e; simp
  · simp [e]

set_option maxHeartbeats 1000000 in
theorem isNl_any {held : Bool} {s : Int} {w : World} : Calls Try.prog 41 #[.agg #[.bool held, .int .i64 s]] w (BoolB (inB s 0 7) w) := by
  have X0 := Lib.hid (Box.new w 24 [.bool held, .int .i64 s])
  have x1 := (X0.out.2 1 _ rfl).1
  go_enter Try.func41, Try.ntmps41
  go_wp2_with (go_at_call 56; refine (isIn_any).mono ?_; rintro e w' ⟨rfl, rfl⟩)
  go_ret
  exact ⟨rfl, by go_grown⟩
set_option maxHeartbeats 1000000 in
theorem NlNumber_any {held : Bool} {s : Int} {w : World} : Calls Try.prog 15 #[.agg #[.bool held, .int .i64 s]] w (IntB (nnOut held s) w) := by
  have X0 := Lib.hid (Box.new w 24 [.bool held, .int .i64 s])
  cases hv : inB s 0 7
  · have HV := Lib.hid hv
    clear hv
    have x0 := (X0.out.2 0 _ rfl).1; have x1 := (X0.out.2 1 _ rfl).1
    go_enter Try.func15, Try.ntmps15
    go_wp2_with fail
    refine isNl_any.mono ?_
    rintro e w1 ⟨rfl, hb1⟩
    rw [HV.out]
    have HB1 := Lib.hid hb1
    clear hb1 x0 x1
    go_wp2
    go_ret
    have e0 : nnOut held s = -1 := by simp [nnOut, HV.out]
    rw [e0]
    exact ⟨rfl, below_step HB1.out (by go_grown) (by first | omega | (simp; omega) | (simp; done))⟩
  · have HV := Lib.hid hv
    obtain ⟨h0, h7⟩ := inB_iff.1 hv
    clear hv
    have x0 := (X0.out.2 0 _ rfl).1; have x1 := (X0.out.2 1 _ rfl).1
    go_enter Try.func15, Try.ntmps15
    go_wp2_with fail
    refine isNl_any.mono ?_
    rintro e w1 ⟨rfl, hb1⟩
    rw [HV.out]
    (try simp only [World.size_alloc, World.size_setCell, World.size_drew] at hb1)
    have X1 := Lib.hid (X0.out.below hb1 (by omega))
    have HB1 := Lib.hid hb1
    clear hb1 x0 x1
    have x0 := (X1.out.2 0 _ rfl).1; have x1 := (X1.out.2 1 _ rfl).1
    cases held
    all_goals
      go_wp2
      go_ret
      refine ⟨ret_int ?_, below_step HB1.out (by go_grown) (by first | omega | (simp; omega) | (simp; done))⟩
      (first | done | simp [nnOut, HV.out])
set_option maxHeartbeats 4000000 in
theorem NewlineIn_any {A : Option Addr} {n c : Nat} {xs : List Int} {held f : Bool} {s : Int} {w : World} {L B : Nat} (h : Ints w L B A n xs) (hB : B ≤ w.heap.size) (hnc : n ≤ c) (hs : okInt s) :
    Calls Try.prog 12 #[.agg #[.bool held, .int .i64 s], .slice A n c, .bool f] w (NlPost (niH held f s xs) (niS held f s xs) (niL held f s xs) w) := by
  have X0 : Hid (Box ((w.alloc (.cells #[.bool held, .int .i64 s] 24)).alloc (.cells #[.bool false, .int .i64 0] 24)) w.heap.size [.bool held, .int .i64 s]) := (Box.new w 24 [.bool held, .int .i64 s]).alloc _
  have R0 : Hid (Box ((w.alloc (.cells #[.bool held, .int .i64 s] 24)).alloc (.cells #[.bool false, .int .i64 0] 24)) (w.heap.size + 1) [.bool false, .int .i64 0]) := by
    have hx := Box.new (w.alloc (.cells #[.bool held, .int .i64 s] 24)) 24 [.bool false, .int .i64 0]
    rw [World.size_alloc] at hx
    exact hx
  have I0 : Hid (Ints ((w.alloc (.cells #[.bool held, .int .i64 s] 24)).alloc (.cells #[.bool false, .int .i64 0] 24)) L B A n xs) := (h.alloc hB _).alloc (by first | omega | (simp; omega) | (simp; done)) _
  have E0 : Hid (Below w.heap.size w ((w.alloc (.cells #[.bool held, .int .i64 s] 24)).alloc (.cells #[.bool false, .int .i64 0] 24))) := (by go_grown : Below w.heap.size w _)
  have s0 : w.heap.size + 2 ≤ ((w.alloc (.cells #[.bool held, .int .i64 s] 24)).alloc (.cells #[.bool false, .int .i64 0] 24)).heap.size := by simp
  have HL := Lib.hid h.len
  clear h
  cases hok : niOk s xs
  · obtain ⟨e1, e2, e3⟩ := ni_no (held := held) (f := f) hok
    rw [e1, e2, e3]
    clear e1 e2 e3
    have HC : Hid (inB s 0 7 = false ∨ (inB s 0 7 = true ∧ bytesB xs = false)) := by
      show _ ∨ _
      unfold niOk at hok
      cases h1 : inB s 0 7
      · exact .inl rfl
      · rw [h1] at hok; exact .inr ⟨rfl, by simpa using hok⟩
    clear hok
    go_enter Try.func12, Try.ntmps12
    go_upto_region 1 with (fail)
    generalize ((w.alloc (.cells #[.bool held, .int .i64 s] 24)).alloc (.cells #[.bool false, .int .i64 0] 24)) = w0 at *
    have x0 := (X0.out.2 0 _ rfl).1; have x1 := (X0.out.2 1 _ rfl).1
    go_wp2_with fail
    refine isNl_any.mono ?_
    rintro e w1 ⟨rfl, hb1⟩
    have HB1 := Lib.hid hb1
    have R1 := Lib.hid (R0.out.below hb1 (by omega))
    have I1 := Lib.hid (I0.out.below hb1 (by omega))
    have E1 := Lib.hid (below_step hb1 E0.out (by omega))
    clear hb1 x0 x1
    rcases HC.out with hc | ⟨hc, hd⟩
    · rw [hc]
      have r0 := (R1.out.2 0 _ rfl).1; have r1 := (R1.out.2 1 _ rfl).1; have f0 := (R1.out.2 0 _ rfl).2; have f1 := (R1.out.2 1 _ rfl).2
      go_wp2
      refine bodyPost_ret (v := .tuple #[.agg #[.bool false, .int .i64 0], .slice none 0 0]) (by simp [results, Try.results12, go_sem, r0, r1, f0, f1]) rfl ?_
      refine ⟨none, 0, 0, rfl, Nat.le_refl _, ?_, (Ints.nil _ _ _ 0 _).1⟩
      (repeat (with_reducible refine below_set ?_ (by omega) _))
      exact E1.out
    · rw [hc]
      go_wp2_with fail
      refine (areBytes_any I1.out).mono ?_
      rintro e w2 ⟨rfl, rfl⟩
      rw [hd]
      have r0 := (R1.out.2 0 _ rfl).1; have r1 := (R1.out.2 1 _ rfl).1; have f0 := (R1.out.2 0 _ rfl).2; have f1 := (R1.out.2 1 _ rfl).2
      go_wp2
      refine bodyPost_ret (v := .tuple #[.agg #[.bool false, .int .i64 0], .slice none 0 0]) (by simp [results, Try.results12, go_sem, r0, r1, f0, f1]) rfl ?_
      refine ⟨none, 0, 0, rfl, Nat.le_refl _, ?_, (Ints.nil _ _ _ 0 _).1⟩
      (repeat (with_reducible refine below_set ?_ (by omega) _))
      exact E1.out
  · obtain ⟨e1, e2, e3⟩ := ni_yes (held := held) (f := f) hok
    rw [e1, e2, e3]
    clear e1 e2 e3
    unfold niOk at hok
    rw [Bool.and_eq_true] at hok
    obtain ⟨hc, hd⟩ := hok
    obtain ⟨h0, h7⟩ := inB_iff.1 hc
    have hn60 : n ≤ 60 := by rw [HL.out]; exact bytesB_le hd
    have HC := Lib.hid hc; have HD := Lib.hid hd
    clear hc hd
    go_enter Try.func12, Try.ntmps12
    go_upto_region 1 with (fail)
    generalize ((w.alloc (.cells #[.bool held, .int .i64 s] 24)).alloc (.cells #[.bool false, .int .i64 0] 24)) = w0 at *
    have x0 := (X0.out.2 0 _ rfl).1; have x1 := (X0.out.2 1 _ rfl).1
    go_wp2_with fail
    refine isNl_any.mono ?_
    rintro e w1 ⟨rfl, hb1⟩
    have X1 := Lib.hid (X0.out.below hb1 (by omega))
    have R1 := Lib.hid (R0.out.below hb1 (by omega))
    have I1 := Lib.hid (I0.out.below hb1 (by omega))
    have E1 := Lib.hid (below_step hb1 E0.out (by omega))
    have s1 := hb1.size
    clear hb1 x0 x1
    rw [HC.out]
    go_wp2_with fail
    refine (areBytes_any I1.out).mono ?_
    rintro e w2 ⟨rfl, rfl⟩
    rw [HD.out]
    have x0 := (X1.out.2 0 _ rfl).1; have x1 := (X1.out.2 1 _ rfl).1
    go_wp2_with fail
    clear x0 x1
    refine (madeOne_any I1.out (by omega) hnc (by omega) h0 h7).mono ?_
    rintro e w2 ⟨A2, n2, c2, rfl, hc2, hb2, hi2⟩
    have R2 := Lib.hid (R1.out.below hb2 (by omega))
    have HI2 := Lib.hid hi2
    have E2 := Lib.hid (below_step hb2 E1.out (by omega))
    have s2 := hb2.size
    clear hb2 hi2
    have r0 := (R2.out.2 0 _ rfl).1; have r1 := (R2.out.2 1 _ rfl).1; have f0 := (R2.out.2 0 _ rfl).2; have f1 := (R2.out.2 1 _ rfl).2
    generalize (nlH held xs && !f) = H at *
    generalize nlS f held s xs = S at *
    generalize nlM f held xs = R at *
    go_wp2
    refine bodyPost_ret (v := .tuple #[.agg #[.bool H, .int .i64 S], .slice A2 n2 c2]) (by simp [results, Try.results12, go_sem, r0, r1, f0, f1]) rfl ?_
    refine ⟨_, _, _, rfl, hc2, ?_, ?_⟩
    · (repeat (with_reducible refine below_set ?_ (by omega) _))
      exact E2.out
    · simp only [World.size_setCell]
      refine Ints.more (lo := w1.heap.size) (hi := w2.heap.size) ?_ (by omega) (Nat.le_refl _)
      (repeat (with_reducible refine Ints.set_ ?_ (by omega) _))
      exact HI2.out
end Go.Proofs.Ytlekbmlacinkdaa
