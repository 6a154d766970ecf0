/- The model's public functions of codes. -/
import Derived.Test.YtkgjcoakeliocaaDoorV8
namespace Go.Proofs.YtkgjcoakeliocaaDoor
open Go.ChangeShapes Go.WideShapes Go.ChangeAt Go.RowKit
set_option linter.unusedSimpArgs false
set_option linter.unusedVariables false
set_option maxRecDepth 100000

set_option maxHeartbeats 2000000 in
theorem SDecodeSome_any {A : Option Addr} {n c L B : Nat} {xs : List Int} {lead m : Int} {f : Bool} {w : World} (h : Ints w L B A n xs) (hB : B ≤ w.heap.size) :
    Calls Tryd.prog 25 #[.slice A n c, .int .i64 lead, .bool f, .int .i64 m] w (DsPost (dsR m f xs lead) w) := by
  have HI := Lib.hid h
  clear h
  cases hd : bytesB xs
  · rw [ds_no (by simp [dsOk, hd])]
    go_enter Tryd.func25, Tryd.ntmps25
    go_wp2_with fail
    refine (validBytes_any HI.out).mono ?_
    rintro e w1 ⟨rfl, rfl⟩
    rw [hd]
    go_wp2
    go_ret3
    exact ⟨none, 0, 0, rfl, Nat.le_refl _, Below.refl _ _, (Ints.nil _ _ _ 0 _).1⟩
  · cases hl : waitB lead
    · rw [ds_no (by simp [dsOk, hl])]
      go_enter Tryd.func25, Tryd.ntmps25
      go_wp2_with fail
      refine (validBytes_any HI.out).mono ?_
      rintro e w1 ⟨rfl, rfl⟩
      rw [hd]
      go_wp2_with fail
      refine validLead_any.mono ?_
      rintro e w1 ⟨rfl, rfl⟩
      rw [hl]
      go_wp2
      go_ret3
      exact ⟨none, 0, 0, rfl, Nat.le_refl _, Below.refl _ _, (Ints.nil _ _ _ 0 _).1⟩
    · cases hm : inB m 0 3
      · rw [ds_no (by simp [dsOk, hm])]
        go_enter Tryd.func25, Tryd.ntmps25
        go_wp2_with fail
        refine (validBytes_any HI.out).mono ?_
        rintro e w1 ⟨rfl, rfl⟩
        rw [hd]
        go_wp2_with fail
        refine validLead_any.mono ?_
        rintro e w1 ⟨rfl, rfl⟩
        rw [hl]
        go_wp2_with fail
        refine validMode_any.mono ?_
        rintro e w1 ⟨rfl, rfl⟩
        rw [hm]
        go_wp2
        go_ret3
        exact ⟨none, 0, 0, rfl, Nat.le_refl _, Below.refl _ _, (Ints.nil _ _ _ 0 _).1⟩
      · rw [ds_yes (by simp [dsOk, hd, hl, hm])]
        have HC : Hid (Calls Tryd.prog 64 #[.slice A n c, .int .i64 lead, .bool f, .int .i64 m] w (DsPost (sm m f xs lead) w)) := decode_to HI.out hB hd hl rfl
        generalize sm m f xs lead = d at *
        obtain ⟨d1, d2, d3⟩ := d
        go_enter Tryd.func25, Tryd.ntmps25
        go_wp2_with fail
        refine (validBytes_any HI.out).mono ?_
        rintro e w1 ⟨rfl, rfl⟩
        rw [hd]
        go_wp2_with fail
        refine validLead_any.mono ?_
        rintro e w1 ⟨rfl, rfl⟩
        rw [hl]
        go_wp2_with fail
        refine validMode_any.mono ?_
        rintro e w1 ⟨rfl, rfl⟩
        rw [hm]
        go_wp2_with fail
        refine HC.out.mono ?_
        rintro e w1 ⟨A1, n1, c1, rfl, hc1, hb1, hi1⟩
        have HB := Lib.hid hb1
        have HI1 := Lib.hid hi1
        clear hb1 hi1
        go_wp2
        go_ret3
        exact ⟨A1, n1, c1, rfl, hc1, HB.out, HI1.out⟩
theorem dsOk_zero {m : Int} {xs : List Int} : dsOk xs 0 m = (bytesB xs && inB m 0 3) := by
  have h1 : waitB 0 = true := rfl
  simp [dsOk, h1]
set_option maxHeartbeats 2000000 in
theorem SDecodeBytes_any {A : Option Addr} {n c L B : Nat} {xs : List Int} {m : Int} {w : World} (h : Ints w L B A n xs) (hB : B ≤ w.heap.size) :
    Calls Tryd.prog 28 #[.slice A n c, .int .i64 m] w (ListBPost (dsR m true xs 0).1 (dsR m true xs 0).2.2 w) := by
  have HI := Lib.hid h
  clear h
  cases hd : bytesB xs
  · rw [ds_no (by simp [dsOk, hd])]
    go_enter Tryd.func28, Tryd.ntmps28
    go_wp2_with fail
    refine (validBytes_any HI.out).mono ?_
    rintro e w1 ⟨rfl, rfl⟩
    rw [hd]
    go_wp2
    go_ret2
    exact ⟨none, 0, 0, rfl, Nat.le_refl _, Below.refl _ _, (Ints.nil _ _ _ 0 _).1⟩
  · cases hm : inB m 0 3
    · rw [ds_no (by simp [dsOk, hm])]
      go_enter Tryd.func28, Tryd.ntmps28
      go_wp2_with fail
      refine (validBytes_any HI.out).mono ?_
      rintro e w1 ⟨rfl, rfl⟩
      rw [hd]
      go_wp2_with fail
      refine validMode_any.mono ?_
      rintro e w1 ⟨rfl, rfl⟩
      rw [hm]
      go_wp2
      go_ret2
      exact ⟨none, 0, 0, rfl, Nat.le_refl _, Below.refl _ _, (Ints.nil _ _ _ 0 _).1⟩
    · rw [ds_yes (by rw [dsOk_zero, hd, hm]; rfl)]
      have HC : Hid (Calls Tryd.prog 64 #[.slice A n c, .int .i64 0, .bool true, .int .i64 m] w (DsPost (sm m true xs 0) w)) := decode_to HI.out hB hd rfl rfl
      generalize sm m true xs 0 = d at *
      obtain ⟨d1, d2, d3⟩ := d
      go_enter Tryd.func28, Tryd.ntmps28
      go_wp2_with fail
      refine (validBytes_any HI.out).mono ?_
      rintro e w1 ⟨rfl, rfl⟩
      rw [hd]
      go_wp2_with fail
      refine validMode_any.mono ?_
      rintro e w1 ⟨rfl, rfl⟩
      rw [hm]
      go_wp2_with fail
      refine HC.out.mono ?_
      rintro e w1 ⟨A1, n1, c1, rfl, hc1, hb1, hi1⟩
      have HB := Lib.hid hb1
      have HI1 := Lib.hid hi1
      clear hb1 hi1
      go_wp2
      go_ret2
      exact ⟨A1, n1, c1, rfl, hc1, HB.out, HI1.out⟩
set_option maxHeartbeats 2000000 in
theorem SCountPoints_any {A : Option Addr} {n c L B : Nat} {xs : List Int} {w : World} (h : Ints w L B A n xs) (hB : B ≤ w.heap.size) :
    Calls Tryd.prog 34 #[.slice A n c] w (IntB (cpOut xs) w) := by
  have HI := Lib.hid h
  clear h
  cases hd : bytesB xs
  · have HE : Hid (cpOut xs = -1) := by show _ = _; simp [cpOut, hd]
    rw [HE.out]
    go_enter Tryd.func34, Tryd.ntmps34
    go_wp2_with fail
    refine (validBytes_any HI.out).mono ?_
    rintro e w1 ⟨rfl, rfl⟩
    rw [hd]
    go_wp2
    go_ret
    exact ⟨rfl, Below.refl _ _⟩
  · have HE : Hid (cpOut xs = (((sm 2 true xs 0).1.length : Nat) : Int)) := by show _ = _; rw [sm_dec 2 _ _ (Nat.le_refl _)]; simp [cpOut, hd, cut]
    rw [HE.out]
    have HC : Hid (Calls Tryd.prog 64 #[.slice A n c, .int .i64 0, .bool true, .int .i64 2] w (DsPost (sm 2 true xs 0) w)) := decode_to HI.out hB hd rfl rfl
    clear HE
    generalize sm 2 true xs 0 = d at *
    obtain ⟨d1, d2, d3⟩ := d
    go_enter Tryd.func34, Tryd.ntmps34
    go_wp2_with fail
    refine (validBytes_any HI.out).mono ?_
    rintro e w1 ⟨rfl, rfl⟩
    rw [hd]
    go_wp2_with fail
    refine HC.out.mono ?_
    rintro e w1 ⟨A1, n1, c1, rfl, hc1, hb1, hi1⟩
    have HB := Lib.hid hb1
    have HL1 := Lib.hid hi1.len
    clear hb1 hi1
    go_wp2
    go_ret
    exact ⟨ret_int (by rw [HL1.out]), HB.out⟩
set_option maxHeartbeats 2000000 in
theorem Sencoded_any {p : Int} {w : World} (hp : ptB p = true) : Calls Tryd.prog 50 #[.int .i64 p] w (ListPost (enc1 p) w) := by
  obtain ⟨h0, h1, h2⟩ := ptB_in hp
  by_cases h : 2047 < p
  · have HE : Hid (enc1 p = [p - 3000]) := by show _ = _; simp [enc1, h]
    rw [HE.out]
    go_enter Tryd.func50, Tryd.ntmps50
    go_wp2
    go_ret
    exact one_new (Below.refl _ _) (by unfold okInt; omega)
  · by_cases h3 : p < 128
    · have HE : Hid (enc1 p = [p]) := by show _ = _; simp [enc1, h, h3]
      rw [HE.out]
      go_enter Tryd.func50, Tryd.ntmps50
      go_wp2
      go_ret
      exact one_new (Below.refl _ _) (by unfold okInt; omega)
    · have HE : Hid (enc1 p = [192 + p / 64, 128 + p % 64]) := by show _ = _; simp [enc1, h, h3]
      rw [HE.out]
      have b1 : p % 64 < 64 := Int.emod_lt_of_pos _ (by omega)
      have b2 : 0 ≤ p % 64 := Int.emod_nonneg _ (by omega)
      have b3 : 0 ≤ p / 64 ∧ p / 64 ≤ 64 := by omega
      have m1 : p.tmod 64 = p % 64 := Int.tmod_eq_emod_of_nonneg h0
      have m2 : p.tdiv 64 = p / 64 := Int.tdiv_eq_ediv_of_nonneg h0
      go_enter Tryd.func50, Tryd.ntmps50
      go_wp2
      go_ret
      exact two_new (Below.refl _ _) (by unfold okInt; omega) (by unfold okInt; omega)
set_option maxHeartbeats 4000000 in
theorem SEncodePoints_any {A : Option Addr} {n c L B : Nat} {xs : List Int} {w : World} (h : Ints w L B A n xs) (hB : B ≤ w.heap.size) :
    Calls Tryd.prog 20 #[.slice A n c] w (ListPost (encOut xs) w) := by
  have HI := Lib.hid h
  clear h
  cases hv : ptsB xs
  · have HE : Hid (encOut xs = []) := by show _ = _; simp [encOut, hv]
    rw [HE.out]
    have HV := Lib.hid hv
    clear hv
    go_enter Tryd.func20, Tryd.ntmps20
    go_wp2_with fail
    refine (SvalidPoints_any HI.out).mono ?_
    rintro e w1 ⟨rfl, rfl⟩
    rw [HV.out]
    go_wp2
    go_ret
    exact ⟨none, 0, 0, rfl, Nat.le_refl _, Below.refl _ _, (Ints.nil _ _ _ 0 _).1⟩
  · have HE : Hid (encOut xs = encL xs) := by show _ = _; simp [encOut, hv]
    rw [HE.out]
    have HV := Lib.hid hv
    unfold ptsB at hv
    rw [Bool.and_eq_true] at hv
    have hn60 : n ≤ 60 := by rw [HI.out.len]; simpa using hv.1
    have HA := Lib.hid hv.2
    have HL := Lib.hid HI.out.len
    clear hv
    go_enter Tryd.func20, Tryd.ntmps20
    go_wp2_with fail
    refine (SvalidPoints_any HI.out).mono ?_
    rintro e w1 ⟨rfl, rfl⟩
    rw [HV.out]
    go_wp2
    go_loopw [3, 4] (fun o i wr => ∃ (j : Nat) (A2 : Option Addr) (k2 c2 : Nat), j ≤ n ∧ i = .int .i64 j ∧ o = .slice A2 k2 c2 ∧ k2 ≤ 2 * j ∧ Hid (OwnI wr w.heap.size (.slice A2 k2 c2) k2 (encL (xs.take j))) ∧ Hid (Below w.heap.size w wr)) (fun _ i _ => n - (intOf i).toNat)
    case atStart => exact ⟨0, _, 0, 0, Nat.zero_le _, rfl, rfl, by omega, OwnI.zero w (Nat.le_refl _), by show Below _ _ _; go_grown⟩
    case round =>
      obtain ⟨j, A2, k2, c2, hj, rfl, rfl, hk2, HO, HB1⟩ := hrel
      have hsz := HB1.out.size
      have HI1 : Hid (Ints wr L B A n xs) := HI.out.below HB1.out hB
      have OK : Hid (∀ y ∈ encL (xs.take j), okInt y) := encL_ok (by
        have := HA.out; rw [List.all_eq_true] at this ⊢; exact fun x hx => this x (List.mem_of_mem_take hx))
      by_cases hlt : j < n
      · obtain ⟨b, o, x, rfl, _, hc, hx⟩ := HI1.out.at_ hlt
        have HS := Lib.hid (encL_snoc hx.out)
        have OK2 : Hid (∀ y ∈ encL (xs.take (j + 1)), okInt y) := encL_ok (by
          have := HA.out; rw [List.all_eq_true] at this ⊢; exact fun x hx => this x (List.mem_of_mem_take hx))
        have hpx : ptB x = true := by have := HA.out; rw [List.all_eq_true] at this; exact this x (List.mem_of_getElem? hx.out)
        go_wp2_with fail
        refine (Sencoded_any hpx).mono ?_
        rintro e w3 ⟨A4, n4, c4, rfl, hc4, hb4, hi4⟩
        have s4 := hb4.size
        have hl4 : n4 ≤ 2 := by have h1 := hi4.len; have h2 := enc1_len x; omega
        have HO4 := Lib.hid (HO.out.below hb4 (Nat.le_refl _))
        have HB4 : Hid (Below w.heap.size w w3) := below_step hb4 HB1.out hsz
        have HJ4 := Lib.hid hi4
        clear hb4 hi4 HO
        go_wp2_with (at_builtin; refine wpList_append_ints rfl (.tmp 15) (.tmp 20) rfl w.heap.size (.slice A2 k2 c2) k2 (encL (xs.take j)) rfl HO4.out A4 n4 c4 (enc1 x) rfl HJ4.out (by omega) (by omega) ?_)
        intro v5 w5 ho5 hg5
        rw [← HS.out] at ho5
        have e5 := below_grown HO4.out hg5 (by omega)
        have s5 := e5.size
        obtain ⟨A5, c5, rfl, hc5⟩ := ho5.shape
        have HO5 := Lib.hid ho5
        have HB5 : Hid (Below w.heap.size w w5) := HB4.out.trans e5
        clear ho5 hg5 e5
        go_wp2
        go_roundw
        case rel => exact ⟨j + 1, A5, _, c5, by omega, by go_num, rfl, by omega, HO5, HB5⟩
        case measure => simp [intOf]; omega
      · obtain rfl : n = j := by omega
        have HTk : Hid (xs.take n = xs) := List.take_of_length_le (by have := HL.out; omega)
        rw [HTk.out] at HO OK
        go_wp2
        go_ret
        exact listPost_own HB1.out HO.out OK.out
end Go.Proofs.YtkgjcoakeliocaaDoor
