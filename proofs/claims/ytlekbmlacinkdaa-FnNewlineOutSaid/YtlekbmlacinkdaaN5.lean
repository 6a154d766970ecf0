/- impl's CountEnds, EndsIn, NlState, NewlineOut. -/
import Derived.Test.YtlekbmlacinkdaaN4
namespace Go.Proofs.Ytlekbmlacinkdaa
open Go.ChangeShapes Go.WideShapes Go.ChangeAt Go.RowKit
set_option linter.unusedSimpArgs false
set_option linter.unusedVariables false
set_option maxRecDepth 100000

/-- A state of newlines, and a bool. -/
def NbPost (H : Bool) (S : Int) (ok : Bool) (w : World) (e : Ending) (w' : World) : Prop := e = .returned (.tuple #[.agg #[.bool H, .int .i64 S], .bool ok]) ∧ Below w.heap.size w w'
def nsH (n : Int) : Bool := inB n 0 15 && decide (n % 2 = 1)
def nsS (n : Int) : Int := if inB n 0 15 then n / 2 else 0
/-- Bytes with a line end for each 10. -/
def outL (xs : List Int) (k : Int) : List Int := xs.flatMap fun x => if x = 10 then endL k else [x]
def noOk (xs : List Int) (k : Int) : Bool := bytesB xs && (decide (k = 2) || (decide (k = 1) || decide (k = 4)))
def noL (xs : List Int) (k : Int) : List Int := if noOk xs k then outL xs k else []
theorem outL_snoc {xs : List Int} {i : Nat} {x k : Int} (h : xs[i]? = some x) : outL (xs.take (i + 1)) k = outL (xs.take i) k ++ (if x = 10 then endL k else [x]) := by
  rw [take_snoc h]; simp [outL]
theorem endL_len (k : Int) : (endL k).length ≤ 2 := by
  unfold endL
  split
  · simp
  · split
    · simp
    · split <;> simp
theorem endL_zero {xs : List Int} {k : Int} (h : noOk xs k = true) : 1 ≤ (endL k).length := by
  simp [noOk] at h
  rcases h.2 with rfl | rfl | rfl <;> simp [endL]
theorem outL_len (xs : List Int) (k : Int) : (outL xs k).length ≤ 2 * xs.length := by
  induction xs with
  | nil => simp [outL]
  | cons x xs ih =>
    have e : outL (x :: xs) k = (if x = 10 then endL k else [x]) ++ outL xs k := by simp [outL]
    rw [e, List.length_append, List.length_cons]
    have := endL_len k
    split
    · omega
    · simp; omega
theorem outL_ok {xs : List Int} {k : Int} (h : ∀ x ∈ xs, okInt x) : ∀ y ∈ outL xs k, okInt y := by
  intro y hy
  obtain ⟨x, hx, hm⟩ := List.mem_flatMap.1 hy
  split at hm
  · exact endL_ok k y hm
  · simp at hm; subst hm; exact h _ hx

set_option maxHeartbeats 1000000 in
theorem NlState_any {n : Int} {w : World} : Calls Try.prog 31 #[.int .i64 n] w (NbPost (nsH n) (nsS n) (inB n 0 15) w) := by
  have R0 := Lib.hid (Box.new w 24 [.bool false, .int .i64 0])
  have r0 := (R0.out.2 0 _ rfl).1; have r1 := (R0.out.2 1 _ rfl).1; have f0 := (R0.out.2 0 _ rfl).2; have f1 := (R0.out.2 1 _ rfl).2
  cases hv : inB n 0 15
  · have e1 : nsH n = false := by simp [nsH, hv]
    have e2 : nsS n = 0 := by simp [nsS, hv]
    rw [e1, e2]
    clear e1 e2
    go_enter Try.func31, Try.ntmps31
    go_wp2_with (go_at_call 56; refine (isIn_any).mono ?_; rintro e w' ⟨rfl, rfl⟩)
    refine bodyPost_ret (v := .tuple #[.agg #[.bool false, .int .i64 0], .bool false]) (by simp [results, Try.results31, go_sem, r0, r1, f0, f1]) rfl ?_
    refine ⟨rfl, ?_⟩
    (repeat (with_reducible refine below_set ?_ (by omega) _))
    go_grown
  · have e1 : nsH n = decide (n % 2 = 1) := by simp [nsH, hv]
    have e2 : nsS n = n / 2 := by simp [nsS, hv]
    rw [e1, e2]
    clear e1 e2
    obtain ⟨h0, h15⟩ := inB_iff.1 hv
    have b1 : n % 2 < 2 := Int.emod_lt_of_pos _ (by omega)
    have b2 : 0 ≤ n % 2 := Int.emod_nonneg _ (by omega)
    have b3 : (n % 2 == 1) = decide (n % 2 = 1) := by by_cases h : n % 2 = 1 <;> simp [h]
    have m1 : n.tmod 2 = n % 2 := Int.tmod_eq_emod_of_nonneg h0
    have m2 : n.tdiv 2 = n / 2 := Int.tdiv_eq_ediv_of_nonneg h0
    go_enter Try.func31, Try.ntmps31
    go_wp2_with (go_at_call 56; refine (isIn_any).mono ?_; rintro e w' ⟨rfl, rfl⟩)
    refine bodyPost_ret (v := .tuple #[.agg #[.bool (decide (n % 2 = 1)), .int .i64 (n / 2)], .bool true]) (by simp [results, Try.results31, go_sem, r0, r1, f0, f1, b3]) rfl ?_
    refine ⟨rfl, ?_⟩
    (repeat (with_reducible refine below_set ?_ (by omega) _))
    go_grown
set_option maxHeartbeats 2000000 in
theorem CountEnds_any {A : Option Addr} {n c : Nat} {xs : List Int} {w : World} {L B : Nat} (h : Ints w L B A n xs) (hB : B ≤ w.heap.size) (hnc : n ≤ c) :
    Calls Try.prog 16 #[.slice A n c] w (IntB (ceOut xs) w) := by
  have HI := Lib.hid h
  clear h
  cases hv : bytesB xs
  · have HV := Lib.hid hv
    have HE : Hid (ceOut xs = -1) := by show _ = _; simp [ceOut, hv]
    rw [HE.out]
    clear hv
    go_enter Try.func16, Try.ntmps16
    go_wp2_with fail
    refine (areBytes_any HI.out).mono ?_
    rintro e w1 ⟨rfl, rfl⟩
    rw [HV.out]
    go_wp2
    go_ret
    exact ⟨rfl, Below.refl _ _⟩
  · have HV := Lib.hid hv
    have HE : Hid (ceOut xs = (((nlM true false xs).count 10 : Nat) : Int)) := by show _ = _; simp [ceOut, hv]
    rw [HE.out]
    have hn60 : n ≤ 60 := by rw [HI.out.len]; exact bytesB_le hv
    have HLN : Hid ((nlM true false xs).length ≤ 61) := by show _ ≤ _; have h1 := nlM_len true xs false; have h2 := bytesB_le hv; simp at h1; omega
    clear hv
    go_enter Try.func16, Try.ntmps16
    go_wp2_with fail
    refine (areBytes_any HI.out).mono ?_
    rintro e w1 ⟨rfl, rfl⟩
    rw [HV.out]
    go_wp2_with fail
    refine (madeOne_any HI.out hB hnc (by omega) (by decide) (by decide)).mono ?_
    rintro e w1 ⟨A1, n1, c1, rfl, hc1, hb1, hi1⟩
    rw [show (nlH false xs && !true) = false by simp]
    generalize nlM true false xs = R at *
    generalize nlS true false 0 xs = S at *
    have HL1 := Lib.hid hi1.len
    have HI1 := Lib.hid (hi1.alloc (Nat.le_refl _) (.cells #[.bool false, .int .i64 S] 24))
    have E1 : Hid (Below w.heap.size w (w1.alloc (.cells #[.bool false, .int .i64 S] 24))) := hb1.alloc hb1.size _
    have hn1 : n1 ≤ 61 := by have := HL1.out; have := HLN.out; omega
    clear hi1 hb1
    go_wp2
    generalize w1.alloc (.cells #[.bool false, .int .i64 S] 24) = w2 at *
    go_loop [5, 19] (fun o i => ∃ k : Nat, k ≤ n1 ∧ i = .int .i64 k ∧ o = .int .i64 (((R.take k).count 10 : Nat) : Int)) (fun _ i => n1 - (intOf i).toNat)
    case atStart => exact ⟨0, Nat.zero_le _, rfl, rfl⟩
    case round =>
      obtain ⟨k, hk, rfl, rfl⟩ := hrel
      have hcl : (R.take k).count 10 ≤ k := by have h1 := List.count_le_length (a := (10 : Int)) (l := R.take k); rw [List.length_take] at h1; omega
      by_cases hlt : k < n1
      · obtain ⟨b, o, x, rfl, _, hc, hx⟩ := HI1.out.at_ hlt
        have HCS := Lib.hid (count_snoc hx.out)
        obtain ⟨ct, hct⟩ : ∃ ct, (R.take k).count 10 = ct := ⟨_, rfl⟩
        rw [hct] at hcl HCS ⊢
        clear hct
        by_cases h10 : x = 10
        · subst h10
          go_wp2
          go_round
          case rel => exact ⟨k + 1, by omega, by go_num, by rw [HCS.out]; simp⟩
          case measure => simp [intOf]; omega
        · have e10 : (x == 10) = false := by simp [h10]
          go_wp2
          go_round
          case rel => exact ⟨k + 1, by omega, by go_num, by rw [HCS.out]; simp [h10]⟩
          case measure => simp [intOf]; omega
      · obtain rfl : n1 = k := by omega
        have HT : Hid (R.take n1 = R) := List.take_of_length_le (by have := HL1.out; omega)
        rw [HT.out] at hcl ⊢
        go_wp2
        go_ret
        exact ⟨rfl, E1.out⟩
set_option maxHeartbeats 2000000 in
theorem EndsIn_any {A : Option Addr} {n c : Nat} {xs : List Int} {w : World} {L B : Nat} (h : Ints w L B A n xs) (hB : B ≤ w.heap.size) (hnc : n ≤ c) :
    Calls Try.prog 35 #[.slice A n c] w (IntB (eiOut xs) w) := by
  have HI := Lib.hid h
  clear h
  cases hv : bytesB xs
  · have HV := Lib.hid hv
    have HE : Hid (eiOut xs = -1) := by show _ = _; simp [eiOut, hv]
    rw [HE.out]
    clear hv
    go_enter Try.func35, Try.ntmps35
    go_wp2_with fail
    refine (areBytes_any HI.out).mono ?_
    rintro e w1 ⟨rfl, rfl⟩
    rw [HV.out]
    go_wp2
    go_ret
    exact ⟨rfl, Below.refl _ _⟩
  · have HV := Lib.hid hv
    have HE : Hid (eiOut xs = nlS true false 0 xs) := by show _ = _; simp [eiOut, hv]
    rw [HE.out]
    have hn60 : n ≤ 60 := by rw [HI.out.len]; exact bytesB_le hv
    clear hv
    go_enter Try.func35, Try.ntmps35
    go_wp2_with fail
    refine (areBytes_any HI.out).mono ?_
    rintro e w1 ⟨rfl, rfl⟩
    rw [HV.out]
    go_wp2_with fail
    refine (madeOne_any HI.out hB hnc (by omega) (by decide) (by decide)).mono ?_
    rintro e w1 ⟨A1, n1, c1, rfl, hc1, hb1, hi1⟩
    rw [show (nlH false xs && !true) = false by simp]
    generalize nlM true false xs = R at *
    generalize nlS true false 0 xs = S at *
    have E1 : Hid (Below w.heap.size w (w1.alloc (.cells #[.bool false, .int .i64 S] 24))) := hb1.alloc hb1.size _
    clear hi1 hb1
    go_wp2
    go_ret
    exact ⟨rfl, E1.out⟩
set_option maxHeartbeats 4000000 in
theorem NewlineOut_any {A : Option Addr} {n c : Nat} {xs : List Int} {k : Int} {w : World} {L B : Nat} (h : Ints w L B A n xs) (hB : B ≤ w.heap.size) (hnc : n ≤ c) :
    Calls Try.prog 19 #[.slice A n c, .int .i64 k] w (ListPost (noL xs k) w) := by
  have HI := Lib.hid h
  clear h
  cases hv : noOk xs k
  · have HE : Hid (noL xs k = []) := by show _ = _; simp [noL, hv]
    rw [HE.out]
    have HV := Lib.hid hv
    clear hv
    go_enter Try.func19, Try.ntmps19
    go_wp2_with fail
    refine endBytes_any.mono ?_
    rintro e w1 ⟨A1, n1, c1, rfl, hc1, hb1, hi1⟩
    have HI1 := Lib.hid (HI.out.below hb1 hB)
    have HB1 := Lib.hid hb1
    have hl1 := hi1.len
    clear hb1
    by_cases hz : n1 = 0
    · subst hz
      clear hl1
      go_wp2
      go_ret
      exact ⟨none, 0, 0, rfl, Nat.le_refl _, HB1.out, (Ints.nil _ _ _ 0 _).1⟩
    · have hzb : ((n1 : Int) == 0) = false := by simp; omega
      have HD : Hid (bytesB xs = false) := by
        show _ = _
        have hv := HV.out
        unfold noOk at hv
        cases hb : bytesB xs
        · rfl
        · rw [hb] at hv
          simp at hv
          simp [endL, hv] at hl1
          exact absurd hl1 hz
      clear hl1
      go_wp2_with fail
      refine (areBytes_any HI1.out).mono ?_
      rintro e w2 ⟨rfl, rfl⟩
      rw [HD.out]
      go_wp2
      go_ret
      exact ⟨none, 0, 0, rfl, Nat.le_refl _, HB1.out, (Ints.nil _ _ _ 0 _).1⟩
  · have HE : Hid (noL xs k = outL xs k) := by show _ = _; simp [noL, hv]
    rw [HE.out]
    have hz := endL_zero hv
    have hd : bytesB xs = true := by unfold noOk at hv; rw [Bool.and_eq_true] at hv; exact hv.1
    have HD := Lib.hid hd
    have hn60 : n ≤ 60 := by rw [HI.out.len]; exact bytesB_le hd
    have HL := Lib.hid HI.out.len
    clear hv hd
    go_enter Try.func19, Try.ntmps19
    go_wp2_with fail
    refine endBytes_any.mono ?_
    rintro e w1 ⟨A1, n1, c1, rfl, hc1, hb1, hi1⟩
    have HI1 := Lib.hid (HI.out.below hb1 hB)
    have HB1 := Lib.hid hb1
    have HJ1 := Lib.hid hi1
    have s1 := hb1.size
    have hl1 := hi1.len
    have hzb : ((n1 : Int) == 0) = false := by simp; omega
    have hn2 : n1 ≤ 2 := by have := endL_len k; omega
    clear hb1 hi1 hl1 hz
    go_wp2_with fail
    refine (areBytes_any HI1.out).mono ?_
    rintro e w2 ⟨rfl, rfl⟩
    rw [HD.out]
    go_wp2
    go_loopw [6, 21] (fun o i wr => ∃ (j : Nat) (A2 : Option Addr) (k2 c2 : Nat), j ≤ n ∧ i = .int .i64 j ∧ o = .slice A2 k2 c2 ∧ k2 ≤ 2 * j ∧ w1.heap.size ≤ wr.heap.size ∧ Hid (OwnI wr w1.heap.size (.slice A2 k2 c2) k2 (outL (xs.take j) k)) ∧ Hid (Ints wr L B A n xs) ∧ Hid (Ints wr w.heap.size w1.heap.size A1 n1 (endL k)) ∧ Hid (Below w.heap.size w wr)) (fun _ i _ => n - (intOf i).toNat)
    case atStart => exact ⟨0, none, 0, 0, Nat.zero_le _, rfl, rfl, by omega, Nat.le_refl _, OwnI.nil_ _ _, HI1, HJ1, HB1⟩
    case round =>
      clear HI1 HJ1 HB1
      obtain ⟨j, A2, k2, c2, hj, rfl, rfl, hk2, hsz, HO, HI1, HJ1, HB1⟩ := hrel
      have OK : Hid (∀ y ∈ outL (xs.take j) k, okInt y) := outL_ok fun x hx => HI1.out.ok x (List.mem_of_mem_take hx)
      by_cases hlt : j < n
      · obtain ⟨b, o, x, rfl, _, hc, hx⟩ := HI1.out.at_ hlt
        have HS := Lib.hid (outL_snoc (k := k) hx.out)
        have OK2 : Hid (∀ y ∈ outL (xs.take (j + 1)) k, okInt y) := outL_ok fun x hx => HI1.out.ok x (List.mem_of_mem_take hx)
        by_cases h10 : x = 10
        · subst h10
          have HS2 : Hid (outL (xs.take j) k ++ endL k = outL (xs.take (j + 1)) k) := by show _ = _; rw [HS.out]; simp
          go_wp2_with (at_builtin; refine wpList_append_ints rfl (.tmp 27) (.tmp 28) rfl w1.heap.size (.slice A2 k2 c2) k2 (outL (xs.take j) k) rfl HO.out A1 n1 _ (endL k) rfl HJ1.out (by omega) (by omega) ?_)
          intro v3 w3 ho3 hg3
          rw [HS2.out] at ho3
          have e3 := below_grown HO.out hg3 hsz
          have s3 := e3.size
          obtain ⟨A3, c3, rfl, hc3, _⟩ := ho3.ints OK2.out
          have HO3 := Lib.hid ho3
          have HI3 := Lib.hid (HI1.out.below e3 (by omega)); have HJ3 := Lib.hid (HJ1.out.below e3 (by omega)); have HB3 : Hid (Below w.heap.size w w3) := below_step e3 HB1.out (by omega)
          clear ho3 hg3 e3 HI1 HJ1 HB1 HO
          go_wp2
          go_roundw
          case rel => exact ⟨j + 1, A3, _, c3, by omega, by go_num, rfl, by omega, by omega, HO3, HI3, HJ3, HB3⟩
          case measure => simp [intOf]; omega
        · have e10 : (x == 10) = false := by simp [h10]
          have HS2 : Hid (outL (xs.take j) k ++ [x] = outL (xs.take (j + 1)) k) := by show _ = _; rw [HS.out]; simp [h10]
          have hxo := HI1.out.ok x (List.mem_of_getElem? hx.out)
          go_wp2_with (at_builtin; refine wpList_append_ints rfl (.tmp 30) (.tmp 32) rfl w1.heap.size (.slice A2 k2 c2) k2 (outL (xs.take j) k) rfl (HO.out.alloc _) (some ⟨wr.heap.size, 0, none⟩) 1 1 [x] rfl (lit1 wr x hxo) (by omega) (by simp; omega) ?_)
          intro v3 w3 ho3 hg3
          rw [HS2.out] at ho3
          have e3 := below_grown (HO.out.alloc (.cells #[.int .i64 x] 3)) hg3 (by simp; omega)
          have s3 : wr.heap.size + 1 ≤ w3.heap.size := by have := e3.size; simp at this; omega
          obtain ⟨A3, c3, rfl, hc3, _⟩ := ho3.ints OK2.out
          have HO3 := Lib.hid ho3
          have HI3 := Lib.hid ((HI1.out.alloc (by omega) (.cells #[.int .i64 x] 3)).below e3 (by omega)); have HJ3 := Lib.hid ((HJ1.out.alloc (by omega) (.cells #[.int .i64 x] 3)).below e3 (by omega)); have HB3 : Hid (Below w.heap.size w w3) := below_step e3 (HB1.out.alloc (by omega) _) (by omega)
          clear ho3 hg3 e3 HI1 HJ1 HB1 HO hxo
          go_wp2
          go_roundw
          case rel => exact ⟨j + 1, A3, _, c3, by omega, by go_num, rfl, by omega, by omega, HO3, HI3, HJ3, HB3⟩
          case measure => simp [intOf]; omega
      · obtain rfl : n = j := by omega
        have HT : Hid (xs.take n = xs) := List.take_of_length_le (by have := HL.out; omega)
        rw [HT.out] at HO OK
        go_wp2
        go_ret
        obtain ⟨A3, c3, e, hc3, hI⟩ := HO.out.ints OK.out
        injection e with e1 e2 e3
        subst e1 e3
        exact ⟨_, _, _, rfl, hc3, HB1.out, hI.more (by omega) (Nat.le_refl _)⟩
end Go.Proofs.Ytlekbmlacinkdaa
