/- The model's lineEnd, CountEnds, NewlineOut. -/
import Derived.Test.YtlekbmlacinkdaaN7
namespace Go.Proofs.Ytlekbmlacinkdaa
open Go.ChangeShapes Go.WideShapes Go.ChangeAt Go.RowKit
set_option linter.unusedSimpArgs false
set_option linter.unusedVariables false
set_option maxRecDepth 100000

/-- How many bytes the line end at index i has. -/
def leN (xs : List Int) (i : Nat) : Nat := if xs[i]? = some 10 then 1 else if xs[i]? = some 13 then (if xs[i + 1]? = some 10 then 2 else 1) else 0
theorem leN_cases (xs : List Int) (i : Nat) : leN xs i = 0 ∨ leN xs i = 1 ∨ leN xs i = 2 := by
  unfold leN
  split
  · exact .inr (.inl rfl)
  · split
    · split
      · exact .inr (.inr rfl)
      · exact .inr (.inl rfl)
    · exact .inl rfl
theorem leN_le {xs : List Int} {i : Nat} (h : i < xs.length) : i + leN xs i ≤ xs.length := by
  unfold leN
  split
  · omega
  · split
    · split
      · rename_i h2
        have := (List.getElem?_eq_some_iff.1 h2).1
        omega
      · omega
    · omega
def c10 (xs : List Int) : Nat := (nlM true false xs).count 10
theorem c10_step {xs : List Int} {i : Nat} (h : i < xs.length) : c10 (xs.drop i) = (if leN xs i = 0 then 0 else 1) + c10 (xs.drop (if leN xs i = 0 then i + 1 else i + leN xs i)) := by
  have hx : xs[i]? = some xs[i] := List.getElem?_eq_getElem h
  generalize xs[i] = x at hx
  have e1 := (nl_drop (f := true) (hd := false) (s := 0) hx).1
  unfold c10
  rw [e1]
  by_cases h10 : x = 10
  · subst h10
    have e : leN xs i = 1 := by simp [leN, hx]
    rw [e]
    simp; omega
  · by_cases h13 : x = 13
    · subst h13
      cases hn : xs[i + 1]? with
      | none =>
        have e : leN xs i = 1 := by simp [leN, hx, hn]
        rw [e, List.drop_of_length_le (List.getElem?_eq_none_iff.1 hn)]
        simp [nlM, List.drop_of_length_le (List.getElem?_eq_none_iff.1 hn)]
      | some y =>
        have e2 := (nl_drop (f := true) (hd := true) (s := 0) hn).1
        have e3 := (nl_drop (f := true) (hd := false) (s := 0) hn).1
        by_cases hy : y = 10
        · subst hy
          have e : leN xs i = 2 := by simp [leN, hx, hn]
          rw [e]
          simp [e2]
          have e4 : xs.drop (i + 2) = xs.drop (i + 1 + 1) := rfl
          rw [e4]; omega
        · have e : leN xs i = 1 := by simp [leN, hx, hn, hy]
          have hy2 : (y != 10) = true := by simp [hy]
          rw [e]
          simp [e2, e3, hy2]
          by_cases hy13 : y = 13 <;> simp [hy13] <;> omega
    · have e : leN xs i = 0 := by simp [leN, hx, h10, h13]
      rw [e]
      have e13 : (x == 13) = false := by simp [h13]
      simp [e13, h10]

set_option maxHeartbeats 4000000 in
theorem lineEnd_any {A : Option Addr} {n c i : Nat} {xs : List Int} {w : World} {L B : Nat} (h : Ints w L B A n xs) (hi : i < n) :
    Calls Try.prog 54 #[.slice A n c, .int .i64 (i : Int)] w fun e w' => e = .returned (.int .i64 ((i : Int) + ((leN xs i : Nat) : Int))) ∧ w = w' := by
  have hm := h.max
  have HL := Lib.hid h.len
  obtain ⟨K, hK⟩ : ∃ K, leN xs i = K := ⟨_, rfl⟩
  rw [hK]
  obtain ⟨b, o, x, rfl, _, hc, hx⟩ := h.at_ hi
  have hiI : (i : Int) < (n : Int) := by omega
  by_cases h10 : x = 10
  · subst h10
    have e : leN xs i = 1 := by have := hx.out; simp [leN, this]
    rw [e] at hK
    subst hK
    clear e
    go_enter Try.func54, Try.ntmps54
    go_wp2
    go_ret
    exact ⟨rfl, rfl⟩
  · have e10 : (x == 10) = false := by simp [h10]
    by_cases h13 : x = 13
    · subst h13
      by_cases hn1 : i + 1 < n
      · obtain ⟨b2, o2, y, e1, _, hc2, hy⟩ := h.at_ hn1
        injection e1 with e1
        injection e1 with e1 e2 _
        subst e1 e2
        have hn2 : (i : Int) + 1 < (n : Int) := by omega
        by_cases hy10 : y = 10
        · subst hy10
          have e : leN xs i = 2 := by have := hx.out; have h2 := hy.out; simp [leN, this, h2]
          rw [e] at hK
          subst hK
          clear e
          go_enter Try.func54, Try.ntmps54
          go_wp2
          go_ret
          exact ⟨rfl, rfl⟩
        · have ey : (y == 10) = false := by simp [hy10]
          have e : leN xs i = 1 := by have := hx.out; have h2 := hy.out; simp [leN, this, h2, hy10]
          rw [e] at hK
          subst hK
          clear e
          go_enter Try.func54, Try.ntmps54
          go_wp2
          go_ret
          exact ⟨rfl, rfl⟩
      · have hn2 : ¬ (i : Int) + 1 < (n : Int) := by omega
        have e : leN xs i = 1 := by
          have := hx.out
          have h2 : xs[i + 1]? = none := List.getElem?_eq_none (by have := HL.out; omega)
          simp [leN, this, h2]
        rw [e] at hK
        subst hK
        clear e
        go_enter Try.func54, Try.ntmps54
        go_wp2
        go_ret
        exact ⟨rfl, rfl⟩
    · have e13 : (x == 13) = false := by simp [h13]
      have e : leN xs i = 0 := by have := hx.out; simp [leN, this, h10, h13]
      rw [e] at hK
      subst hK
      clear e
      go_enter Try.func54, Try.ntmps54
      go_wp2
      go_ret
      exact ⟨by simp, rfl⟩
set_option maxHeartbeats 4000000 in
theorem SCountEnds_any {A : Option Addr} {n c : Nat} {xs : List Int} {w : World} {L B : Nat} (h : Ints w L B A n xs) :
    Calls Try.prog 28 #[.slice A n c] w (IntB (ceOut xs) w) := by
  have HI := Lib.hid h
  clear h
  cases hv : bytesB xs
  · have HV := Lib.hid hv
    have HE : Hid (ceOut xs = -1) := by show _ = _; simp [ceOut, hv]
    rw [HE.out]
    clear hv
    go_enter Try.func28, Try.ntmps28
    go_wp2_with fail
    refine (validBytes_any HI.out).mono ?_
    rintro e w1 ⟨rfl, rfl⟩
    rw [HV.out]
    go_wp2
    go_ret
    exact ⟨rfl, Below.refl _ _⟩
  · have HV := Lib.hid hv
    obtain ⟨C, hC⟩ : ∃ C, c10 xs = C := ⟨_, rfl⟩
    have HE : Hid (ceOut xs = ((C : Nat) : Int)) := by show _ = _; rw [← hC]; simp [ceOut, hv, c10]
    rw [HE.out]
    have hn60 : n ≤ 60 := by rw [HI.out.len]; exact bytesB_le hv
    have HL := Lib.hid HI.out.len
    have hC61 : C ≤ 61 := by
      rw [← hC]
      have h1 := nlM_len true xs false
      have h2 := bytesB_le hv
      have h3 := List.count_le_length (a := (10 : Int)) (l := nlM true false xs)
      unfold c10
      simp at h1
      omega
    have ST : Hid (0 + c10 (xs.drop 0) = C) := by show _ = _; simpa using hC
    clear hv hC
    go_enter Try.func28, Try.ntmps28
    go_wp2_with fail
    refine (validBytes_any HI.out).mono ?_
    rintro e w1 ⟨rfl, rfl⟩
    rw [HV.out]
    go_wp2
    go_loop [3, 4] (fun m i => ∃ k ct : Nat, k ≤ n ∧ i = .int .i64 k ∧ m = .int .i64 ct ∧ ct ≤ C ∧ Hid (ct + c10 (xs.drop k) = C)) (fun _ i => n - (intOf i).toNat)
    case atStart => exact ⟨0, 0, Nat.zero_le _, rfl, rfl, Nat.zero_le _, ST⟩
    case round =>
      clear ST
      obtain ⟨k, ct, hk, rfl, rfl, hct, ST⟩ := hrel
      by_cases hlt : k < n
      · have hst := c10_step (xs := xs) (i := k) (by have := HL.out; omega)
        have hle := leN_le (xs := xs) (i := k) (by have := HL.out; omega)
        have hcs := leN_cases xs k
        have hcall := lineEnd_any (c := c) HI.out hlt
        rw [← HL.out] at hle
        obtain ⟨K, hK⟩ : ∃ K, leN xs k = K := ⟨_, rfl⟩
        rw [hK] at hst hle hcs hcall
        have HST := Lib.hid hst
        have HC := Lib.hid hcall
        clear hst hcall hK
        go_wp2_with fail
        refine HC.out.mono ?_
        rintro e w1 ⟨rfl, rfl⟩
        rcases hcs with rfl | rfl | rfl
        · have hmx : max ((k : Int) + ((0 : Nat) : Int)) ((k : Int) + 1) = (k : Int) + 1 := by omega
          go_wp2
          go_round
          case rel => exact ⟨k + 1, ct, by omega, by first | go_num | (simp; done) | (simp; omega), rfl, hct, by show _ = _; have h1 := ST.out; have h2 := HST.out; simp at h2; omega⟩
          case measure => simp [intOf]; omega
        · have hct2 : ct + 1 ≤ C := by have h1 := ST.out; have h2 := HST.out; simp at h2; omega
          have hmx : max ((k : Int) + ((1 : Nat) : Int)) ((k : Int) + 1) = (k : Int) + 1 := by omega
          go_wp2
          go_round
          case rel => exact ⟨k + 1, ct + 1, by omega, by first | go_num | (simp; done) | (simp; omega), by go_num, hct2, by show _ = _; have h1 := ST.out; have h2 := HST.out; simp at h2; omega⟩
          case measure => simp [intOf]; omega
        · have hct2 : ct + 1 ≤ C := by have h1 := ST.out; have h2 := HST.out; simp at h2; omega
          have hmx : max ((k : Int) + ((2 : Nat) : Int)) ((k : Int) + 1) = (k : Int) + 2 := by omega
          go_wp2
          go_round
          case rel => exact ⟨k + 2, ct + 1, by omega, by first | go_num | (simp; done) | (simp; omega), by go_num, hct2, by show _ = _; have h1 := ST.out; have h2 := HST.out; simp at h2; omega⟩
          case measure => simp [intOf]; omega
      · obtain rfl : n = k := by omega
        have hst := ST.out
        rw [List.drop_of_length_le (by have := HL.out; omega)] at hst
        have hst : ct = C := by simpa [c10, nlM] using hst
        subst hst
        clear ST
        go_wp2
        go_ret
        exact ⟨rfl, Below.refl _ _⟩
theorem isMarkB (k : Int) (xs : List Int) : noOk xs k = (bytesB xs && (decide (k = 2) || (decide (k = 1) || decide (k = 4)))) := rfl
set_option maxHeartbeats 1000000 in
theorem isMark_any {k : Int} {w : World} : Calls Try.prog 50 #[.int .i64 k] w fun e w' => e = .returned (.bool (decide (k = 2) || (decide (k = 1) || decide (k = 4)))) ∧ w = w' := by
  by_cases h2 : k = 2
  · subst h2
    go_enter Try.func50, Try.ntmps50
    go_wp2
    go_ret
    exact ⟨rfl, rfl⟩
  · have e2 : (k == 2) = false := by simp [h2]
    by_cases h1 : k = 1
    · subst h1
      go_enter Try.func50, Try.ntmps50
      go_wp2
      go_ret
      exact ⟨rfl, rfl⟩
    · have e1 : (k == 1) = false := by simp [h1]
      by_cases h4 : k = 4
      · subst h4
        go_enter Try.func50, Try.ntmps50
        go_wp2
        go_ret
        exact ⟨rfl, rfl⟩
      · have e4 : (k == 4) = false := by simp [h4]
        go_enter Try.func50, Try.ntmps50
        go_wp2
        go_ret
        exact ⟨by simp [h1, h2, h4], rfl⟩
theorem lit2 (w : World) (x y : Int) (hx : okInt x) (hy : okInt y) : Ints (w.alloc (.cells #[.int .i64 x, .int .i64 y] 3)) w.heap.size (w.heap.size + 1) (some ⟨w.heap.size, 0, none⟩) 2 [x, y] :=
  ⟨rfl, by omega, (fun z hz => by simp at hz; rcases hz with rfl | rfl <;> assumption), fun _ => ⟨w.heap.size, 0, rfl, Nat.le_refl _, Nat.lt_succ_self _, fun j z hz => by
    rw [Nat.zero_add]
    exact (Box.new w _ [.int .i64 x, .int .i64 y]).2 j (.int .i64 z) (by
      rcases j with _ | _ | j
      · simp at hz ⊢; exact hz
      · simp at hz ⊢; exact hz
      · simp at hz)⟩⟩
set_option maxHeartbeats 1000000 in
theorem endOf_any {k : Int} {w : World} (hk : k = 1 ∨ k = 2 ∨ k = 4) : Calls Try.prog 51 #[.int .i64 k] w (ListPost (endL k) w) := by
  rcases hk with rfl | rfl | rfl
  · go_enter Try.func51, Try.ntmps51
    go_wp2
    go_ret
    exact ⟨_, _, _, rfl, Nat.le_refl _, by go_grown, (lit1 w 13 ok13).more (Nat.le_refl _) (by simp)⟩
  · go_enter Try.func51, Try.ntmps51
    go_wp2
    go_ret
    exact ⟨_, _, _, rfl, Nat.le_refl _, by go_grown, (lit1 w 10 ok10).more (Nat.le_refl _) (by simp)⟩
  · go_enter Try.func51, Try.ntmps51
    go_wp2
    go_ret
    exact ⟨_, _, _, rfl, Nat.le_refl _, by go_grown, (lit2 w 13 10 ok13 ok10).more (Nat.le_refl _) (by simp)⟩
set_option maxHeartbeats 4000000 in
theorem SNewlineOut_any {A : Option Addr} {n c : Nat} {xs : List Int} {k : Int} {w : World} {L B : Nat} (h : Ints w L B A n xs) (hB : B ≤ w.heap.size) :
    Calls Try.prog 20 #[.slice A n c, .int .i64 k] w (ListPost (noL xs k) w) := by
  have HI := Lib.hid h
  clear h
  cases hv : noOk xs k
  · have HE : Hid (noL xs k = []) := by show _ = _; simp [noL, hv]
    rw [HE.out]
    have HC : Hid (bytesB xs = false ∨ (bytesB xs = true ∧ (decide (k = 2) || (decide (k = 1) || decide (k = 4))) = false)) := by
      show _ ∨ _
      rw [isMarkB] at hv
      cases h1 : bytesB xs
      · exact .inl rfl
      · rw [h1] at hv; exact .inr ⟨rfl, by simpa using hv⟩
    clear hv
    go_enter Try.func20, Try.ntmps20
    go_wp2_with fail
    refine (validBytes_any HI.out).mono ?_
    rintro e w1 ⟨rfl, rfl⟩
    rcases HC.out with hc | ⟨hc, hd⟩
    · rw [hc]
      go_wp2
      go_ret
      exact ⟨none, 0, 0, rfl, Nat.le_refl _, Below.refl _ _, (Ints.nil _ _ _ 0 _).1⟩
    · rw [hc]
      go_wp2_with fail
      refine isMark_any.mono ?_
      rintro e w1 ⟨rfl, rfl⟩
      rw [hd]
      go_wp2
      go_ret
      exact ⟨none, 0, 0, rfl, Nat.le_refl _, Below.refl _ _, (Ints.nil _ _ _ 0 _).1⟩
  · have HE : Hid (noL xs k = outL xs k) := by show _ = _; simp [noL, hv]
    rw [HE.out]
    rw [isMarkB, Bool.and_eq_true] at hv
    obtain ⟨hd, hmk⟩ := hv
    have HD := Lib.hid hd
    have HMK := Lib.hid hmk
    have HK : Hid (k = 1 ∨ k = 2 ∨ k = 4) := by simp at hmk; show _ ∨ _; omega
    have hn60 : n ≤ 60 := by rw [HI.out.len]; exact bytesB_le hd
    have HL := Lib.hid HI.out.len
    have HI0 := Lib.hid (HI.out.alloc hB (.cells #[] 3))
    have HO0 := Lib.hid (OwnI.made w (Nat.le_refl w.heap.size))
    have HB0 : Hid (Below w.heap.size w (w.alloc (.cells #[] 3))) := (by go_grown : Below w.heap.size w _)
    have s0 : w.heap.size + 1 ≤ (w.alloc (.cells #[] 3)).heap.size := by simp
    clear hd hmk
    go_enter Try.func20, Try.ntmps20
    go_wp2_with fail
    refine (validBytes_any HI.out).mono ?_
    rintro e w1 ⟨rfl, rfl⟩
    rw [HD.out]
    go_wp2_with fail
    refine isMark_any.mono ?_
    rintro e w1 ⟨rfl, rfl⟩
    rw [HMK.out]
    go_upto_region 4 with (fail)
    generalize w.alloc (.cells #[] 3) = w0 at *
    go_wp2
    go_loopw [5, 6] (fun o i wr => ∃ (j : Nat) (A2 : Option Addr) (k2 c2 : Nat), j ≤ n ∧ i = .int .i64 j ∧ o = .slice A2 k2 c2 ∧ k2 ≤ 2 * j ∧ w.heap.size ≤ wr.heap.size ∧ Hid (OwnI wr w.heap.size (.slice A2 k2 c2) k2 (outL (xs.take j) k)) ∧ Hid (Ints wr L B A n xs) ∧ Hid (Below w.heap.size w wr)) (fun _ i _ => n - (intOf i).toNat)
    case atStart => exact ⟨0, _, 0, 0, Nat.zero_le _, rfl, rfl, by omega, by omega, HO0, HI0, HB0⟩
    case round =>
      clear HI0 HO0 HB0 s0
      obtain ⟨j, A2, k2, c2, hj, rfl, rfl, hk2, hsz, HO, HI1, HB⟩ := hrel
      have OK : Hid (∀ y ∈ outL (xs.take j) k, okInt y) := outL_ok fun x hx => HI1.out.ok x (List.mem_of_mem_take hx)
      by_cases hlt : j < n
      · obtain ⟨b, o, x, rfl, _, hc, hx⟩ := HI1.out.at_ hlt
        have HS := Lib.hid (outL_snoc (k := k) hx.out)
        have OK2 : Hid (∀ y ∈ outL (xs.take (j + 1)) k, okInt y) := outL_ok fun x hx => HI1.out.ok x (List.mem_of_mem_take hx)
        by_cases h10 : x = 10
        · subst h10
          have HS2 : Hid (outL (xs.take j) k ++ endL k = outL (xs.take (j + 1)) k) := by show _ = _; rw [HS.out]; simp
          go_wp2_with fail
          refine (endOf_any HK.out).mono ?_
          rintro e w2 ⟨A1, n1, c1, rfl, hc1, hb2, hj2⟩
          have hn1 : n1 ≤ 2 := by rw [hj2.len]; exact endL_len k
          have s2 := hb2.size
          have HJ := Lib.hid hj2
          have HO2 := Lib.hid (HO.out.below hb2 (Nat.le_refl _)); have HI2 := Lib.hid (HI1.out.below hb2 (by omega)); have HB2 : Hid (Below w.heap.size w w2) := below_step hb2 HB.out (by omega)
          clear hb2 hj2 HO HI1 HB hc
          go_wp2_with (at_builtin; refine wpList_append_ints rfl (.tmp 27) (.tmp 29) rfl w.heap.size (.slice A2 k2 c2) k2 (outL (xs.take j) k) rfl HO2.out A1 n1 _ (endL k) rfl HJ.out (by omega) (by omega) ?_)
          intro v3 w3 ho3 hg3
          rw [HS2.out] at ho3
          have e3 := below_grown HO2.out hg3 (by omega)
          have s3 := e3.size
          obtain ⟨A3, c3, rfl, hc3, _⟩ := ho3.ints OK2.out
          have HO3 := Lib.hid ho3
          have HI3 := Lib.hid (HI2.out.below e3 (by omega)); have HB3 : Hid (Below w.heap.size w w3) := below_step e3 HB2.out (by omega)
          clear ho3 hg3 e3 HI2 HJ HB2 HO2
          go_wp2
          go_roundw
          case rel => exact ⟨j + 1, A3, _, c3, by omega, by go_num, rfl, by omega, by omega, HO3, HI3, HB3⟩
          case measure => simp [intOf]; omega
        · have e10 : (x == 10) = false := by simp [h10]
          have HS2 : Hid (outL (xs.take j) k ++ [x] = outL (xs.take (j + 1)) k) := by show _ = _; rw [HS.out]; simp [h10]
          have hxo := HI1.out.ok x (List.mem_of_getElem? hx.out)
          go_wp2_with (at_builtin; refine wpList_append_ints rfl (.tmp 31) (.tmp 36) rfl w.heap.size (.slice A2 k2 c2) k2 (outL (xs.take j) k) rfl (HO.out.alloc _) (some ⟨wr.heap.size, 0, none⟩) 1 1 [x] rfl (lit1 wr x hxo) (by omega) (by simp; omega) ?_)
          intro v3 w3 ho3 hg3
          rw [HS2.out] at ho3
          have e3 := below_grown (HO.out.alloc (.cells #[.int .i64 x] 3)) hg3 (by simp; omega)
          have s3 : wr.heap.size + 1 ≤ w3.heap.size := by have := e3.size; simp at this; omega
          obtain ⟨A3, c3, rfl, hc3, _⟩ := ho3.ints OK2.out
          have HO3 := Lib.hid ho3
          have HI3 := Lib.hid ((HI1.out.alloc (by omega) (.cells #[.int .i64 x] 3)).below e3 (by omega)); have HB3 : Hid (Below w.heap.size w w3) := below_step e3 (HB.out.alloc (by omega) _) (by omega)
          clear ho3 hg3 e3 HI1 HB HO hxo
          go_wp2
          go_roundw
          case rel => exact ⟨j + 1, A3, _, c3, by omega, by go_num, rfl, by omega, by omega, HO3, HI3, HB3⟩
          case measure => simp [intOf]; omega
      · obtain rfl : n = j := by omega
        have HT : Hid (xs.take n = xs) := List.take_of_length_le (by have := HL.out; omega)
        rw [HT.out] at HO OK
        go_wp2
        go_ret
        obtain ⟨A3, c3, e, hc3, hI⟩ := HO.out.ints OK.out
        injection e with e1 e2 e3
        subst e1 e3
        exact ⟨_, _, _, rfl, hc3, HB.out, hI⟩
end Go.Proofs.Ytlekbmlacinkdaa
