/- The model's BadAt, SyncAt, PlacesOf. -/
import Derived.Test.YtkgjcoakeliocaaDoorV9
namespace Go.Proofs.YtkgjcoakeliocaaDoor
open Go.ChangeShapes Go.WideShapes Go.ChangeAt Go.RowKit
set_option linter.unusedSimpArgs false
set_option linter.unusedVariables false
set_option maxRecDepth 100000

theorem drop_at {xs : List Int} {k : Nat} {x : Int} (h : xs[k]? = some x) : xs.drop k = x :: xs.drop (k + 1) := by
  have hk : k < xs.length := (List.getElem?_eq_some_iff.1 h).1
  have h1 : xs[k] = x := by rw [List.getElem?_eq_getElem hk] at h; exact Option.some.inj h
  rw [List.drop_eq_getElem_cons hk, h1]
def bdQ (l : List (Nat × Int)) : Int := match l.find? (fun x => decide (2047 < x.2)) with
  | some x => (x.1 : Int)
  | none => -1
theorem bdL_q (xs : List Int) : bdL xs = bdQ (seqP 0 xs) := rfl
theorem bdQ_nil : bdQ [] = -1 := rfl
theorem bdQ_pass {x : Nat × Int} {l : List (Nat × Int)} (h : ¬ 2047 < x.2) : bdQ (x :: l) = bdQ l := by simp [bdQ, h]
theorem bdQ_hit {x : Nat × Int} {l : List (Nat × Int)} (h : 2047 < x.2) : bdQ (x :: l) = (x.1 : Int) := by simp [bdQ, h]
theorem bd_low {xs : List Int} {k : Nat} {x : Int} (h : xs[k]? = some x) (hx : x < 128) : bdQ (seqP k (xs.drop k)) = bdQ (seqP (k + 1) (xs.drop (k + 1))) := by
  have hk : k < xs.length := (List.getElem?_eq_some_iff.1 h).1
  have e := seq_step hk
  have hd := drop_at h
  rw [e, bdQ_pass (by rw [hd, (low_fpt hx).1]; show ¬ 2047 < x; omega), hd, (low_fpt hx).2]
theorem bd_two {xs : List Int} {k : Nat} {x y : Int} (h : xs[k]? = some x) (h' : xs[k + 1]? = some y) (hp : pairB x y = true) : bdQ (seqP k (xs.drop k)) = bdQ (seqP (k + 2) (xs.drop (k + 2))) := by
  have hk : k < xs.length := (List.getElem?_eq_some_iff.1 h).1
  have e := seq_step hk
  have hd : xs.drop k = x :: y :: xs.drop (k + 2) := by rw [drop_at h, drop_at h']
  have h2 := two_in hp
  rw [e, bdQ_pass (by rw [hd, (two_fpt hp).1]; show ¬ 2047 < two x y; omega), hd, (two_fpt hp).2]
theorem bd_bad {xs : List Int} {k : Nat} {x : Int} (h : xs[k]? = some x) (hx : ¬ x < 128) (hp : ∀ y, xs[k + 1]? = some y → pairB x y = false) : bdQ (seqP k (xs.drop k)) = (k : Int) := by
  have hk : k < xs.length := (List.getElem?_eq_some_iff.1 h).1
  have e := seq_step hk
  have hd := drop_at h
  rw [e, bdQ_hit (by rw [hd, (high_fpt hx (fun c hc => hp c (by rw [List.getElem?_drop] at hc; exact hc))).1]; show 2047 < 3000 + x; omega)]

set_option maxHeartbeats 4000000 in
theorem SBadAt_any {A : Option Addr} {n c L B : Nat} {xs : List Int} {w : World} (h : Ints w L B A n xs) :
    Calls Tryd.prog 31 #[.slice A n c] w (IntB (bdOut xs) w) := by
  have HI := Lib.hid h
  have HL := Lib.hid h.len
  have hmx := h.max
  clear h
  cases hd : bytesB xs
  · have HE : Hid (bdOut xs = -2) := by show _ = _; simp [bdOut, hd]
    rw [HE.out]
    go_enter Tryd.func31, Tryd.ntmps31
    go_wp2_with fail
    refine (validBytes_any HI.out).mono ?_
    rintro e w1 ⟨rfl, rfl⟩
    rw [hd]
    go_wp2
    go_ret
    exact ⟨rfl, Below.refl _ _⟩
  · have HE : Hid (bdOut xs = bdL xs) := by show _ = _; simp [bdOut, hd]
    rw [HE.out]
    have hn60 : n ≤ 60 := by rw [HL.out]; exact bytesB_le hd
    have HV := Lib.hid hd
    clear hd HE
    go_enter Tryd.func31, Tryd.ntmps31
    go_wp2_with fail
    refine (validBytes_any HI.out).mono ?_
    rintro e w1 ⟨rfl, rfl⟩
    rw [HV.out]
    go_wp2
    go_loop [3] (fun i => ∃ k : Nat, k ≤ n ∧ i = .int .i64 k ∧ Hid (bdL xs = bdQ (seqP k (xs.drop k)))) (fun i => n - (intOf i).toNat)
    case atStart => exact ⟨0, Nat.zero_le _, rfl, bdL_q xs⟩
    case round =>
      obtain ⟨k, hk, rfl, HQ⟩ := hrel
      by_cases hlt : k < n
      · obtain ⟨b, o, x, rfl, _, hc, hx⟩ := HI.out.at_ hlt
        by_cases h1 : x < 128
        · have HN : Hid (bdL xs = bdQ (seqP (k + 1) (xs.drop (k + 1)))) := HQ.out.trans (bd_low hx.out h1)
          go_wp2
          go_round
          case rel => exact ⟨k + 1, by omega, by go_num, HN⟩
          case measure => simp [intOf]; omega
        · by_cases hn1 : k + 1 < n
          · obtain ⟨b2, o2, y, e1, _, hc2, hy⟩ := HI.out.at_ (k := k + 1) hn1
            injection e1 with e1
            injection e1 with e1 e2 _
            subst e1 e2
            have hn2 : (k : Int) + 1 < (n : Int) := by omega
            cases hl : leadB x
            · have HN : Hid (bdL xs = (k : Int)) := HQ.out.trans (bd_bad hx.out h1 (fun z _ => by simp [pairB, hl]))
              go_wp2_with ((go_at_call 65; refine SisLead_any.mono ?_; rintro e w9 ⟨rfl, rfl⟩))
              go_ret
              exact ⟨ret_int HN.out.symm, Below.refl _ _⟩
            · cases ht : tailB y
              · have HN : Hid (bdL xs = (k : Int)) := HQ.out.trans (bd_bad hx.out h1 (fun z hz => by rw [hy.out] at hz; injection hz with hz; subst hz; simp [pairB, ht]))
                go_wp2_with (first | (go_at_call 65; refine SisLead_any.mono ?_; rintro e w9 ⟨rfl, rfl⟩) | (go_at_call 66; refine SisTail_any.mono ?_; rintro e w9 ⟨rfl, rfl⟩))
                go_ret
                exact ⟨ret_int HN.out.symm, Below.refl _ _⟩
              · have HN : Hid (bdL xs = bdQ (seqP (k + 2) (xs.drop (k + 2)))) := HQ.out.trans (bd_two hx.out hy.out (by simp [pairB, hl, ht]))
                go_wp2_with (first | (go_at_call 65; refine SisLead_any.mono ?_; rintro e w9 ⟨rfl, rfl⟩) | (go_at_call 66; refine SisTail_any.mono ?_; rintro e w9 ⟨rfl, rfl⟩))
                go_round
                case rel => exact ⟨k + 2, by omega, by go_num, HN⟩
                case measure => simp [intOf]; omega
          · have hn2 : ¬ (k : Int) + 1 < (n : Int) := by omega
            have HN : Hid (bdL xs = (k : Int)) := HQ.out.trans (bd_bad hx.out h1 (fun z hz => by have := (List.getElem?_eq_some_iff.1 hz).1; have := HL.out; omega))
            cases hl : leadB x
            all_goals
              go_wp2_with ((go_at_call 65; refine SisLead_any.mono ?_; rintro e w9 ⟨rfl, rfl⟩))
              go_ret
              exact ⟨ret_int HN.out.symm, Below.refl _ _⟩
      · obtain rfl : n = k := by omega
        have HN : Hid (bdL xs = -1) := by show _ = _; rw [HQ.out, List.drop_of_length_le (by have := HL.out; omega)]; rfl
        go_wp2
        go_ret
        exact ⟨ret_int HN.out.symm, Below.refl _ _⟩
/-- The byte with the index i is the second one of a point. -/
def prB (xs : List Int) (i : Nat) : Bool := decide (0 < i) && (match xs[i - 1]?, xs[i]? with | some b, some c => pairB b c | _, _ => false)
theorem prB_zero (xs : List Int) : prB xs 0 = false := rfl
theorem prB_at {xs : List Int} {k : Nat} {b c : Int} (h : xs[k]? = some b) (h' : xs[k + 1]? = some c) : prB xs (k + 1) = pairB b c := by
  simp [prB, h, h']
theorem syL_pr (xs : List Int) (i : Nat) : syL xs i = if prB xs i = true then (i : Int) - 1 else (i : Int) := by
  unfold syL prB
  simp only [Bool.and_eq_true, decide_eq_true_eq]
  rfl
theorem tail_nolead {b c d : Int} (h : pairB b c = true) : pairB c d = false := by
  cases hp : pairB c d with
  | false => rfl
  | true => have h1 := pairB_iff.1 h; have h2 := pairB_iff.1 hp; omega
theorem places (xs : List Int) : ∀ (m k : Nat), xs.length - k ≤ m → prB xs k = false → (seqP k (xs.drop k)).map (·.1) = (List.range' k (xs.length - k)).filter (fun i => !prB xs i) := by
  intro m
  induction m with
  | zero =>
    intro k hm hp
    have e : xs.length - k = 0 := by omega
    rw [e, List.drop_of_length_le (by omega)]
    rfl
  | succ m ih =>
    intro k hm hp
    by_cases hk : k < xs.length
    · obtain ⟨r, hr⟩ : ∃ r, xs.length - k = r + 1 := ⟨xs.length - k - 1, by omega⟩
      obtain ⟨x, hx⟩ : ∃ x, xs[k]? = some x := ⟨xs[k], List.getElem?_eq_getElem hk⟩
      have e := seq_step hk
      rw [e, hr, List.range'_succ]
      rw [List.filter_cons, if_pos (by simp [hp]), List.map_cons]
      congr 1
      by_cases hk1 : k + 1 < xs.length
      · obtain ⟨y, hy⟩ : ∃ y, xs[k + 1]? = some y := ⟨xs[k + 1], List.getElem?_eq_getElem hk1⟩
        have hd : xs.drop k = x :: y :: xs.drop (k + 2) := by rw [drop_at hx, drop_at hy]
        cases hpp : pairB x y
        · have hf : fsz (xs.drop k) = 1 := by rw [hd]; simp [fsz, hpp]
          rw [hf, ih (k + 1) (by omega) (by rw [prB_at hx hy, hpp])]
          have : xs.length - (k + 1) = r := by omega
          rw [this]
        · have hf : fsz (xs.drop k) = 2 := by rw [hd]; simp [fsz, hpp]
          have hp2 : prB xs (k + 2) = false := by
            cases hz : xs[k + 2]? with
            | none => simp [prB, hz, hy]
            | some z => rw [prB_at hy hz]; exact tail_nolead hpp
          obtain ⟨r2, hr2⟩ : ∃ r2, r = r2 + 1 := ⟨r - 1, by omega⟩
          rw [hf, ih (k + 2) (by omega) hp2, hr2, List.range'_succ, List.filter_cons, if_neg (by rw [prB_at hx hy, hpp]; decide)]
          have : xs.length - (k + 2) = r2 := by omega
          rw [this]
      · have hf : fsz (xs.drop k) = 1 := by
          rw [drop_at hx, List.drop_of_length_le (by omega)]; rfl
        have hr0 : r = 0 := by omega
        rw [hf, List.drop_of_length_le (by omega), hr0]
        rfl
    · have e : xs.length - k = 0 := by omega
      rw [e, List.drop_of_length_le (by omega)]
      rfl
/-- The places ahead of j. -/
def plTo (xs : List Int) (j : Nat) : List Int := ((List.range j).filter (fun i => !prB xs i)).map fun (i : Nat) => (i : Int)
theorem plTo_all {xs : List Int} {n : Nat} (h : n = xs.length) : plTo xs n = plL xs := by
  have h1 := places xs xs.length 0 (by omega) (prB_zero xs)
  rw [List.drop_zero, Nat.sub_zero, ← List.range_eq_range'] at h1
  unfold plTo plL
  rw [h, ← h1, List.map_map]
  rfl
theorem plTo_yes {xs : List Int} {j : Nat} (h : prB xs j = false) : plTo xs (j + 1) = plTo xs j ++ [(j : Int)] := by simp [plTo, List.range_succ, List.filter_append, h]
theorem plTo_no {xs : List Int} {j : Nat} (h : prB xs j = true) : plTo xs (j + 1) = plTo xs j := by simp [plTo, List.range_succ, List.filter_append, h]
theorem plTo_ok {xs : List Int} {j : Nat} (h : j ≤ 60) : ∀ x ∈ plTo xs j, okInt x := by
  intro x hx
  obtain ⟨i, hi, rfl⟩ := List.mem_map.1 hx
  have := List.mem_range.1 (List.mem_filter.1 hi).1
  unfold okInt; omega

set_option maxHeartbeats 4000000 in
theorem SPlacesOf_any {A : Option Addr} {n c L B : Nat} {xs : List Int} {w : World} (h : Ints w L B A n xs) (hB : B ≤ w.heap.size) :
    Calls Tryd.prog 40 #[.slice A n c] w (ListPost (plOut xs) w) := by
  have HI := Lib.hid h
  have HL := Lib.hid h.len
  clear h
  cases hd : bytesB xs
  · have HE : Hid (plOut xs = []) := by show _ = _; simp [plOut, hd]
    rw [HE.out]
    go_enter Tryd.func40, Tryd.ntmps40
    go_wp2_with fail
    refine (validBytes_any HI.out).mono ?_
    rintro e w1 ⟨rfl, rfl⟩
    rw [hd]
    go_wp2
    go_ret
    exact ⟨none, 0, 0, rfl, Nat.le_refl _, Below.refl _ _, (Ints.nil _ _ _ 0 _).1⟩
  · have HE : Hid (plOut xs = plL xs) := by show _ = _; simp [plOut, hd]
    rw [HE.out]
    have hn60 : n ≤ 60 := by rw [HL.out]; exact bytesB_le hd
    have HV := Lib.hid hd
    clear hd HE
    go_enter Tryd.func40, Tryd.ntmps40
    go_wp2_with fail
    refine (validBytes_any HI.out).mono ?_
    rintro e w1 ⟨rfl, rfl⟩
    rw [HV.out]
    go_wp2
    go_loopw [3, 4] (fun o i wr => ∃ (j : Nat) (A2 : Option Addr) (k2 c2 : Nat), j ≤ n ∧ i = .int .i64 j ∧ o = .slice A2 k2 c2 ∧ k2 ≤ j ∧ Hid (OwnI wr w.heap.size (.slice A2 k2 c2) k2 (plTo xs j)) ∧ Hid (Below w.heap.size w wr)) (fun _ i _ => n - (intOf i).toNat)
    case atStart => exact ⟨0, _, 0, 0, Nat.zero_le _, rfl, rfl, by omega, OwnI.zero w (Nat.le_refl _), by show Below _ _ _; go_grown⟩
    case round =>
      obtain ⟨j, A2, k2, c2, hj, rfl, rfl, hk2, HO, HB1⟩ := hrel
      have hsz := HB1.out.size
      have HI1 : Hid (Ints wr L B A n xs) := HI.out.below HB1.out hB
      by_cases hlt : j < n
      · obtain ⟨b, o, x, rfl, _, hc, hx⟩ := HI1.out.at_ hlt
        by_cases hj0 : j = 0
        · subst hj0
          have HS := Lib.hid (plTo_yes (prB_zero xs))
          go_wp2_with (at_builtin; refine wpList_append_ints rfl (.tmp 34) (.tmp 36) rfl w.heap.size (.slice A2 k2 c2) k2 (plTo xs 0) rfl (HO.out.alloc _) (some ⟨wr.heap.size, 0, none⟩) 1 1 [0] rfl (lit1 wr 0 (by unfold okInt; omega)) (by omega) (by simp; omega) ?_)
          intro v5 w5 ho5 hg5
          have e5 := below_grown (HO.out.alloc (.cells #[.int .i64 0] 3)) hg5 (by simp; omega)
          have HB5 : Hid (Below w.heap.size w w5) := (HB1.out.alloc hsz _).trans e5
          obtain ⟨A5, c5, rfl, hc5⟩ := ho5.shape
          have HO5 : Hid (OwnI w5 w.heap.size (.slice A5 (k2 + 1) c5) (k2 + 1) (plTo xs 1)) := by show OwnI _ _ _ _ _; have h9 := HS.out; simp only [Nat.zero_add] at h9; rw [h9]; exact ho5
          clear ho5 hg5 e5
          go_wp2
          go_roundw
          case rel => exact ⟨1, A5, _, c5, by omega, by go_num, rfl, by omega, HO5, HB5⟩
          case measure => simp [intOf]; omega
        · obtain ⟨b2, o2, y, e1, _, hc2, hy⟩ := HI1.out.at_ (k := j - 1) (by omega)
          injection e1 with e1
          injection e1 with e1 e2 _
          subst e1 e2
          have hjz : ((j : Int) == 0) = false := by simp; omega
          have hj1 : (0 : Int) ≤ (j : Int) - 1 := by omega
          have hj2 : ((j : Int) - 1).toNat = j - 1 := by omega
          have hj3 : (j : Int) - 1 < (n : Int) := by omega
          have hpr : prB xs j = pairB y x := by
            obtain ⟨i, rfl⟩ : ∃ i, j = i + 1 := ⟨j - 1, by omega⟩
            exact prB_at hy.out hx.out
          have HPR := Lib.hid hpr
          clear hpr
          cases hp : pairB y x
          · have HS := Lib.hid (plTo_yes (HPR.out.trans hp))
            cases ht : tailB x
            · go_wp2_with (first | (go_at_call 66; refine SisTail_any.mono ?_; rintro e w9 ⟨rfl, rfl⟩) | (go_at_call 65; refine SisLead_any.mono ?_; rintro e w9 ⟨rfl, rfl⟩) | (at_builtin; refine wpList_append_ints rfl (.tmp 34) (.tmp 36) rfl w.heap.size (.slice A2 k2 c2) k2 (plTo xs j) rfl (HO.out.alloc _) (some ⟨wr.heap.size, 0, none⟩) 1 1 [(j : Int)] rfl (lit1 wr (j : Int) (by unfold okInt; omega)) (by omega) (by simp; omega) ?_))
              intro v5 w5 ho5 hg5
              have e5 := below_grown (HO.out.alloc (.cells #[.int .i64 (j : Int)] 3)) hg5 (by simp; omega)
              have HB5 : Hid (Below w.heap.size w w5) := (HB1.out.alloc hsz _).trans e5
              obtain ⟨A5, c5, rfl, hc5⟩ := ho5.shape
              rw [← HS.out] at ho5
              have HO5 := Lib.hid ho5
              clear ho5 hg5 e5
              go_wp2
              go_roundw
              case rel => exact ⟨j + 1, A5, _, c5, by omega, by go_num, rfl, by omega, HO5, HB5⟩
              case measure => simp [intOf]; omega
            · have hl : leadB y = false := by simpa [pairB, ht] using hp
              go_wp2_with (first | (go_at_call 66; refine SisTail_any.mono ?_; rintro e w9 ⟨rfl, rfl⟩) | (go_at_call 65; refine SisLead_any.mono ?_; rintro e w9 ⟨rfl, rfl⟩) | (at_builtin; refine wpList_append_ints rfl (.tmp 34) (.tmp 36) rfl w.heap.size (.slice A2 k2 c2) k2 (plTo xs j) rfl (HO.out.alloc _) (some ⟨wr.heap.size, 0, none⟩) 1 1 [(j : Int)] rfl (lit1 wr (j : Int) (by unfold okInt; omega)) (by omega) (by simp; omega) ?_))
              intro v5 w5 ho5 hg5
              have e5 := below_grown (HO.out.alloc (.cells #[.int .i64 (j : Int)] 3)) hg5 (by simp; omega)
              have HB5 : Hid (Below w.heap.size w w5) := (HB1.out.alloc hsz _).trans e5
              obtain ⟨A5, c5, rfl, hc5⟩ := ho5.shape
              rw [← HS.out] at ho5
              have HO5 := Lib.hid ho5
              clear ho5 hg5 e5
              go_wp2
              go_roundw
              case rel => exact ⟨j + 1, A5, _, c5, by omega, by go_num, rfl, by omega, HO5, HB5⟩
              case measure => simp [intOf]; omega
          · have HS := Lib.hid (plTo_no (HPR.out.trans hp))
            have ht : tailB x = true := by unfold pairB at hp; rw [Bool.and_eq_true] at hp; exact hp.2
            have hl : leadB y = true := by unfold pairB at hp; rw [Bool.and_eq_true] at hp; exact hp.1
            go_wp2_with (first | (go_at_call 66; refine SisTail_any.mono ?_; rintro e w9 ⟨rfl, rfl⟩) | (go_at_call 65; refine SisLead_any.mono ?_; rintro e w9 ⟨rfl, rfl⟩))
            go_roundw
            case rel => exact ⟨j + 1, A2, _, c2, by omega, by go_num, rfl, by omega, by show OwnI _ _ _ _ _; rw [HS.out]; exact HO.out, HB1⟩
            case measure => simp [intOf]; omega
      · obtain rfl : n = j := by omega
        have HTk : Hid (plTo xs n = plL xs) := plTo_all HL.out
        rw [HTk.out] at HO
        go_wp2
        go_ret
        exact listPost_own HB1.out HO.out (by rw [← HTk.out]; exact plTo_ok hn60)
set_option maxHeartbeats 4000000 in
theorem SSyncAt_any {A : Option Addr} {n c : Nat} {xs : List Int} {i : Int} {w : World} {L B : Nat} (h : Ints w L B A n xs) :
    Calls Tryd.prog 38 #[.slice A n c, .int .i64 i] w (IntB (syOut xs i) w) := by
  have hm := h.max
  have HL := Lib.hid h.len
  cases hv : bytesB xs
  · have HV := Lib.hid hv
    have HE : Hid (syOut xs i = -1) := by show _ = _; simp [syOut, hv]
    rw [HE.out]
    clear hv
    go_enter Tryd.func38, Tryd.ntmps38
    go_wp2_with fail
    refine (validBytes_any h).mono ?_
    rintro e w1 ⟨rfl, rfl⟩
    rw [HV.out]
    go_wp2
    go_ret
    exact ⟨rfl, Below.refl _ _⟩
  · have HV := Lib.hid hv
    have hn60 : n ≤ 60 := by rw [HL.out]; exact bytesB_le hv
    cases hi : inB i 0 ((n : Int) - 1)
    · have HE : Hid (syOut xs i = -1) := by show _ = _; rw [HL.out] at hi; simp [syOut, hi]
      rw [HE.out]
      clear hv
      go_enter Tryd.func38, Tryd.ntmps38
      go_wp2_with fail
      refine (validBytes_any h).mono ?_
      rintro e w1 ⟨rfl, rfl⟩
      rw [HV.out]
      go_wp2_with (go_at_call 68; refine (inRange_any).mono ?_; rintro e w' ⟨rfl, rfl⟩)
      go_ret
      exact ⟨rfl, Below.refl _ _⟩
    · have HE : Hid (syOut xs i = syL xs i.toNat) := by show _ = _; rw [HL.out] at hi; simp [syOut, hi, hv]
      rw [HE.out]
      obtain ⟨h0, h1⟩ := inB_iff.1 hi
      clear hv
      obtain ⟨k, rfl⟩ : ∃ k : Nat, i = k := ⟨i.toNat, by omega⟩
      rw [Int.toNat_natCast]
      have hk : k < n := by omega
      obtain ⟨bk, o, x, rfl, hbk, hc, hx⟩ := h.at_ hk
      by_cases hk0 : k = 0
      · subst hk0
        have HS : Hid (syL xs 0 = 0) := by show _ = _; simp [syL]
        rw [HS.out]
        clear hc
        have hi2 : inB 0 0 ((n : Int) - 1) = true := by simpa using hi
        go_enter Tryd.func38, Tryd.ntmps38
        go_wp2_with fail
        refine (validBytes_any h).mono ?_
        rintro e w1 ⟨rfl, rfl⟩
        rw [HV.out]
        go_wp2_with (go_at_call 68; refine (inRange_any).mono ?_; rintro e w' ⟨rfl, rfl⟩)
        go_ret
        exact ⟨rfl, Below.refl _ _⟩
      · obtain ⟨bk', o', y, e1, _, hc1, hy⟩ := h.at_ (k := k - 1) (by omega)
        injection e1 with e1
        injection e1 with e1 e2 _
        subst e1 e2
        have HS : Hid (syL xs k = if pairB y x then (k : Int) - 1 else (k : Int)) := by
          show _ = _
          unfold syL
          rw [hx.out, hy.out]
          simp only [show 0 < k by omega, true_and]
        rw [HS.out]
        have b1 : (0 : Int) < (k : Int) := by omega
        have b2 : (k : Int) - 1 < (n : Int) := by omega
        have b3 : (0 : Int) ≤ (k : Int) - 1 := by omega
        have b4 : ((k : Int) - 1).toNat = k - 1 := by omega
        have b5 : (k : Int) < (n : Int) := by omega
        have b6 : 0 < k := by omega
        clear hk0
        cases ht : tailB x
        · have hp : pairB y x = false := by simp [pairB, ht]
          rw [hp]
          go_enter Tryd.func38, Tryd.ntmps38
          go_wp2_with fail
          refine (validBytes_any h).mono ?_
          rintro e w1 ⟨rfl, rfl⟩
          rw [HV.out]
          go_wp2_with (first | (go_at_call 68; refine (inRange_any).mono ?_; rintro e w' ⟨rfl, rfl⟩) | (go_at_call 66; refine SisTail_any.mono ?_; rintro e w9 ⟨rfl, rfl⟩) | (go_at_call 65; refine SisLead_any.mono ?_; rintro e w9 ⟨rfl, rfl⟩))
          go_ret
          exact ⟨rfl, Below.refl _ _⟩
        · cases hl : leadB y
          · have hp : pairB y x = false := by simp [pairB, hl]
            rw [hp]
            go_enter Tryd.func38, Tryd.ntmps38
            go_wp2_with fail
            refine (validBytes_any h).mono ?_
            rintro e w1 ⟨rfl, rfl⟩
            rw [HV.out]
            go_wp2_with (first | (go_at_call 68; refine (inRange_any).mono ?_; rintro e w' ⟨rfl, rfl⟩) | (go_at_call 66; refine SisTail_any.mono ?_; rintro e w9 ⟨rfl, rfl⟩) | (go_at_call 65; refine SisLead_any.mono ?_; rintro e w9 ⟨rfl, rfl⟩))
            go_ret
            exact ⟨rfl, Below.refl _ _⟩
          · have hp : pairB y x = true := by simp [pairB, hl, ht]
            rw [hp]
            go_enter Tryd.func38, Tryd.ntmps38
            go_wp2_with fail
            refine (validBytes_any h).mono ?_
            rintro e w1 ⟨rfl, rfl⟩
            rw [HV.out]
            go_wp2_with (first | (go_at_call 68; refine (inRange_any).mono ?_; rintro e w' ⟨rfl, rfl⟩) | (go_at_call 66; refine SisTail_any.mono ?_; rintro e w9 ⟨rfl, rfl⟩) | (go_at_call 65; refine SisLead_any.mono ?_; rintro e w9 ⟨rfl, rfl⟩))
            go_ret
            exact ⟨rfl, Below.refl _ _⟩
end Go.Proofs.YtkgjcoakeliocaaDoor
