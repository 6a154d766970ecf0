/- impl's DecodeSome, DecodeBytes, CountPoints. -/
import Derived.Test.YtkgjcoakeliocaaDoorV5
namespace Go.Proofs.YtkgjcoakeliocaaDoor
open Go.ChangeShapes Go.WideShapes Go.ChangeAt Go.RowKit
set_option linter.unusedSimpArgs false
set_option linter.unusedVariables false
set_option maxRecDepth 100000

/-- Points, the byte that waits, and whether that is possible. -/
def DsPost (d : Dec) (w : World) (e : Ending) (w' : World) : Prop :=
  ∃ A n c, e = .returned (.tuple #[.slice A n c, .int .i64 d.2.1, .bool d.2.2]) ∧ n ≤ c ∧ Below w.heap.size w w' ∧ Ints w' w.heap.size w'.heap.size A n d.1
def dsOk (xs : List Int) (lead m : Int) : Bool := bytesB xs && (waitB lead && inB m 0 3)
def dsR (m : Int) (f : Bool) (xs : List Int) (lead : Int) : Dec := if dsOk xs lead m then sm m f xs lead else ([], 0, false)
theorem ds_yes {m lead : Int} {f : Bool} {xs : List Int} (h : dsOk xs lead m = true) : dsR m f xs lead = sm m f xs lead := by simp [dsR, h]
theorem ds_no {m lead : Int} {f : Bool} {xs : List Int} (h : dsOk xs lead m = false) : dsR m f xs lead = ([], 0, false) := by simp [dsR, h]
theorem lastLead_get : ∀ {ys : List Int} {k : Nat} {z : Int}, k + 1 = ys.length → ys[k]? = some z → lastLead ys = if leadB z then z else 0
  | [], k, z, h, _ => by simp at h
  | [b], k, z, h, hz => by
    obtain rfl : k = 0 := by simpa using h
    simp at hz
    subst hz
    rfl
  | b :: c :: r, k, z, h, hz => by
    obtain ⟨j, rfl⟩ : ∃ j, k = j + 1 := ⟨k - 1, by simp at h; omega⟩
    rw [lastLead_cons (by simp)]
    exact lastLead_get (k := j) (by simpa using h) (by simpa using hz)
theorem wait_zero {lead : Int} (h : waitB lead = true) (h0 : ¬ lead = 0) : leadB lead = true := by
  unfold waitB at h
  simpa [h0] using h
theorem bytes1_cons {lead : Int} {xs : List Int} (h : leadB lead = true) (hd : bytesB xs = true) : bytes1 (lead :: xs) := by
  have h1 := leadB_iff.1 h
  refine ⟨by have := bytesB_le hd; simp; omega, ?_⟩
  rw [allB_cons, bytesB_all hd, inB_true (by omega) (by omega)]
  rfl
theorem bytes1_take {xs : List Int} {k : Nat} (h : bytes1 xs) : bytes1 (xs.take k) := ⟨by have := h.1; rw [List.length_take]; omega, allB_take h.2 k⟩

theorem OwnI.lit1 (w : World) (x : Int) {base : Nat} (hb : base ≤ w.heap.size) : OwnI (w.alloc (.cells #[.int .i64 x] 3)) base (.slice (some ⟨w.heap.size, 0, none⟩) 1 1) 1 [x] :=
  ⟨by simp, .inr ⟨w.heap.size, 1, #[.int .i64 x], rfl, hb, World.alloc_heap_new w _, by omega, by unfold maxLen; omega, rfl, by simp⟩⟩
set_option maxHeartbeats 2000000 in
theorem DecodeSome_to {d0 : Dec} {A : Option Addr} {n c L B : Nat} {xs : List Int} {lead m : Int} {f : Bool} {w : World} (h : Ints w L B A n xs) (hB : B ≤ w.heap.size) (hnc : n ≤ c) (hT : Tab w) (h00 : d0 = dsR m f xs lead) :
    Calls Tryd.prog 24 #[.slice A n c, .int .i64 lead, .bool f, .int .i64 m] w (DsPost d0 w) := by
  have HT := Lib.hid hT
  have HI := Lib.hid h
  have hmx := h.max
  clear h hT
  cases hok : dsOk xs lead m
  · rw [ds_no hok] at h00
    subst h00
    cases hd : bytesB xs
    · have HD := Lib.hid hd
      clear hd hok
      go_enter Tryd.func24, Tryd.ntmps24
      go_wp2_with fail
      refine (areBytes_any HI.out).mono ?_
      rintro e w1 ⟨rfl, rfl⟩
      rw [HD.out]
      go_wp2
      go_ret3
      exact ⟨none, 0, 0, rfl, Nat.le_refl _, Below.refl _ _, (Ints.nil _ _ _ 0 _).1⟩
    · have HD := Lib.hid hd
      cases hl : waitB lead
      · have HW := Lib.hid hl
        clear hd hok hl
        go_enter Tryd.func24, Tryd.ntmps24
        go_wp2_with fail
        refine (areBytes_any HI.out).mono ?_
        rintro e w1 ⟨rfl, rfl⟩
        rw [HD.out]
        go_wp2_with fail
        refine (isLead_any HT.out).mono ?_
        rintro e w1 ⟨rfl, hb1⟩
        rw [HW.out]
        have HB1 := Lib.hid hb1
        clear hb1
        go_wp2
        go_ret3
        exact ⟨none, 0, 0, rfl, Nat.le_refl _, HB1.out, (Ints.nil _ _ _ 0 _).1⟩
      · have HW := Lib.hid hl
        have hm : inB m 0 3 = false := by simpa [dsOk, hd, hl] using hok
        clear hd hok hl
        go_enter Tryd.func24, Tryd.ntmps24
        go_wp2_with fail
        refine (areBytes_any HI.out).mono ?_
        rintro e w1 ⟨rfl, rfl⟩
        rw [HD.out]
        go_wp2_with fail
        refine (isLead_any HT.out).mono ?_
        rintro e w1 ⟨rfl, hb1⟩
        rw [HW.out]
        have HB1 := Lib.hid hb1
        clear hb1
        go_wp2_with (go_at_call 58; refine (isIn_any).mono ?_; rintro e w' ⟨rfl, rfl⟩)
        go_ret3
        exact ⟨none, 0, 0, rfl, Nat.le_refl _, HB1.out, (Ints.nil _ _ _ 0 _).1⟩
  · rw [ds_yes hok] at h00
    have hok' := hok
    unfold dsOk at hok'
    rw [Bool.and_eq_true, Bool.and_eq_true] at hok'
    obtain ⟨hd, hl, hm⟩ := hok'
    have HD := Lib.hid hd
    have HW := Lib.hid hl
    have hn60 : n ≤ 60 := by rw [HI.out.len]; exact bytesB_le hd
    clear hok hd hl
    by_cases h0 : lead = 0
    · subst h0
      have HS0 := Lib.hid h00
      clear h00
      have HL := Lib.hid HI.out.len
      have HD1 : Hid (bytes1 xs) := bytes1_of HD.out
      have HOK : Hid (∀ x ∈ xs, okInt x) := HI.out.ok
      go_enter Tryd.func24, Tryd.ntmps24
      go_wp2_with fail
      refine (areBytes_any HI.out).mono ?_
      rintro e w1 ⟨rfl, rfl⟩
      rw [HD.out]
      go_wp2_with fail
      refine (isLead_any HT.out).mono ?_
      rintro e w1 ⟨rfl, hb1⟩
      rw [HW.out]
      have HB1 := Lib.hid hb1
      have HT1 : Hid (Tab w1) := HT.out.below hb1 (Nat.le_refl _)
      clear hb1
      go_wp2_with fail
      refine isIn_any.mono ?_
      rintro e w0 ⟨rfl, rfl⟩
      rw [hm]
      go_upto_region 5 with (fail)
      have HI1 : Hid (Ints w1 L B A n xs) := HI.out.below HB1.out hB
      have hB1 : B ≤ w1.heap.size := by have := HB1.out.size; omega
      have hn61 : n ≤ 61 := by omega
      clear HI hB hn60 HT
      obtain ⟨d, hdd⟩ : ∃ d, d = decB m xs := ⟨_, rfl⟩
      obtain ⟨dl, db⟩ := d
      have HDD := Lib.hid hdd
      clear hdd
      cases f
      · by_cases hz : n = 0
        · have hy0 : xs = [] := List.eq_nil_of_length_eq_zero (by have := HL.out; omega)
          have HR : Hid (d0 = cut (dl, db) 0) := by show _ = _; rw [HDD.out, HS0.out, sm_wait m _ _ (Nat.le_refl _), hy0]; rfl
          clear hy0
          subst hz
          go_wp2_with fail
          have hdec := decoded_any (md := m) HI1.out hB1 hnc HT1.out HD1.out
          rw [← HDD.out] at hdec
          refine hdec.mono ?_
          clear hdec
          rintro e w3 ⟨A3, n3, c3, rfl, hc3, hb3, hi3⟩
          have HI3 := Lib.hid hi3
          have HB3 : Hid (Below w.heap.size w w3) := below_step hb3 HB1.out HB1.out.size
          have HS3 := Lib.hid (HB1.out.size)
          clear hb3 hi3
          cases db
          all_goals
            go_wp2
            go_ret3
            have hr := HR.out
            subst hr
            exact ⟨A3, n3, c3, rfl, hc3, HB3.out, HI3.out.more HS3.out (Nat.le_refl _)⟩
        · obtain ⟨k, hk⟩ : ∃ k, n = k + 1 := ⟨n - 1, by omega⟩
          obtain ⟨bk, o, z, hAe, hbk, hcz, hxz⟩ := HI1.out.at_ (k := k) (by omega)
          have HLL := Lib.hid (lastLead_get (by have := HL.out; omega) hxz.out)
          have HSM : Hid (d0 = cut (decB m (body xs)) (lastLead xs)) := by show _ = _; rw [HS0.out]; exact sm_wait m _ _ (Nat.le_refl _)
          have HK := Lib.hid hk
          have hN1 : (0 : Int) ≤ (n : Int) - 1 := by omega
          have hN2 : ((n : Int) - 1).toNat = k := by omega
          have hN3 : (n : Int) - 1 < (n : Int) := by omega
          have hkn : k ≤ n := by omega
          have hN5 : (1 : Int) ≤ (n : Int) := by omega
          subst hAe
          clear hk
          go_wp2_with fail
          refine (partOf_any HT1.out).mono ?_
          rintro e w2b ⟨rfl, hb2⟩
          have hp2 := part_two z
          have HI1b : Hid (Ints w2b L B (some ⟨bk, o, none⟩) n xs) := HI1.out.below hb2 hB1
          have HBb : Hid (Below w.heap.size w w2b) := below_step hb2 HB1.out HB1.out.size
          have HTb : Hid (Tab w2b) := HT1.out.below hb2 (Nat.le_refl _)
          have hsb := hb2.size
          have hcz2 := (hb2.cell (p := ⟨bk, o + k, none⟩) (by show bk < w1.heap.size; omega)).trans hcz
          clear hb2 hcz HI1
          generalize partN z = q at *
          cases hlz : leadB z
          · have e1 : (q == 2) = false := by rw [hp2, hlz]
            have HR : Hid (d0 = cut (dl, db) 0) := by
              show _ = _
              have h1 := HLL.out
              rw [hlz] at h1
              simp only [Bool.false_eq_true, if_false] at h1
              have h2 : body xs = xs := by unfold body; rw [if_pos h1]
              rw [HSM.out, h1, h2, HDD.out]
            clear hp2 hlz HSM
            go_wp2_with fail
            have hdec := decoded_any (md := m) HI1b.out (by omega) hnc HTb.out HD1.out
            rw [← HDD.out] at hdec
            refine hdec.mono ?_
            clear hdec
            rintro e w3 ⟨A3, n3, c3, rfl, hc3, hb3, hi3⟩
            have HI3 := Lib.hid hi3
            have HB3 : Hid (Below w.heap.size w w3) := below_step hb3 HBb.out HBb.out.size
            have HS3 := Lib.hid (HBb.out.size)
            clear hb3 hi3
            cases db
            all_goals
              go_wp2
              go_ret3
              have hr := HR.out
              subst hr
              exact ⟨A3, n3, c3, rfl, hc3, HB3.out, HI3.out.more HS3.out (Nat.le_refl _)⟩
          · have e1 : (q == 2) = true := by rw [hp2, hlz]
            have hz0 := leadB_iff.1 hlz
            clear HDD dl db
            obtain ⟨d, hdd⟩ : ∃ d, d = decB m (xs.take k) := ⟨_, rfl⟩
            obtain ⟨dl, db⟩ := d
            have HDD := Lib.hid hdd
            clear hdd
            have HR : Hid (d0 = cut (dl, db) z) := by
              show _ = _
              have h1 := HLL.out
              rw [hlz] at h1
              simp only [if_true] at h1
              have h3 : xs.length - 1 = k := by have h2 := HL.out; have h3 := HK.out; omega
              have h2 : body xs = xs.take k := by unfold body; rw [h1, if_neg (by omega), h3]
              rw [HSM.out, h1, h2, HDD.out]
            clear hp2 hlz HSM
            have HI1c : Hid (Ints w2b L B (some ⟨bk, o, none⟩) k (xs.take k)) := HI1b.out.take hkn
            have hkc : k ≤ c := by omega
            have hkcI : (k : Int) ≤ (c : Int) := by omega
            have HD2 : Hid (bytes1 (xs.take k)) := bytes1_take HD1.out
            go_wp2_with fail
            have hdec := decoded_any (md := m) HI1c.out (by omega) hkc HTb.out HD2.out
            rw [← HDD.out] at hdec
            refine hdec.mono ?_
            clear hdec
            rintro e w3 ⟨A3, n3, c3, rfl, hc3, hb3, hi3⟩
            have HI3 := Lib.hid hi3
            have HB3 : Hid (Below w.heap.size w w3) := below_step hb3 HBb.out HBb.out.size
            have HS3 := Lib.hid (HBb.out.size)
            clear hb3 hi3
            cases db
            all_goals
              go_wp2
              go_ret3
              have hr := HR.out
              subst hr
              exact ⟨A3, n3, c3, rfl, hc3, HB3.out, HI3.out.more HS3.out (Nat.le_refl _)⟩
      · have HR : Hid (d0 = cut (dl, db) 0) := by show _ = _; rw [HDD.out, HS0.out]; exact sm_dec m _ _ (Nat.le_refl _)
        by_cases hz : n = 0
        · subst hz
          go_wp2_with fail
          have hdec := decoded_any (md := m) HI1.out hB1 hnc HT1.out HD1.out
          rw [← HDD.out] at hdec
          refine hdec.mono ?_
          clear hdec
          rintro e w3 ⟨A3, n3, c3, rfl, hc3, hb3, hi3⟩
          have HI3 := Lib.hid hi3
          have HB3 : Hid (Below w.heap.size w w3) := below_step hb3 HB1.out HB1.out.size
          have HS3 := Lib.hid (HB1.out.size)
          clear hb3 hi3
          cases db
          all_goals
            go_wp2
            go_ret3
            have hr := HR.out
            subst hr
            exact ⟨A3, n3, c3, rfl, hc3, HB3.out, HI3.out.more HS3.out (Nat.le_refl _)⟩
        · have hzI : (1 : Int) ≤ (n : Int) := by omega
          have hzJ : 0 ≤ (n : Int) - 1 := by omega
          clear hz
          go_wp2_with fail
          have hdec := decoded_any (md := m) HI1.out hB1 hnc HT1.out HD1.out
          rw [← HDD.out] at hdec
          refine hdec.mono ?_
          clear hdec
          rintro e w3 ⟨A3, n3, c3, rfl, hc3, hb3, hi3⟩
          have HI3 := Lib.hid hi3
          have HB3 : Hid (Below w.heap.size w w3) := below_step hb3 HB1.out HB1.out.size
          have HS3 := Lib.hid (HB1.out.size)
          clear hb3 hi3
          cases db
          all_goals
            go_wp2
            go_ret3
            have hr := HR.out
            subst hr
            exact ⟨A3, n3, c3, rfl, hc3, HB3.out, HI3.out.more HS3.out (Nat.le_refl _)⟩
    · have hlead := wait_zero HW.out h0
      have hlr := leadB_iff.1 hlead
      have e0 : (lead == 0) = false := by simp [h0]
      have HD1 : Hid (bytes1 (lead :: xs)) := bytes1_cons hlead HD.out
      have HOK : Hid (∀ x ∈ lead :: xs, okInt x) := fun x hx => (List.mem_cons.1 hx).elim (fun e => by subst e; unfold okInt; omega) (fun hx => HI.out.ok x hx)
      have HS0 : Hid (d0 = sm m f (lead :: xs) 0) := by show _ = _; rw [h00, sm_ahead hlead xs]
      clear h00
      go_enter Tryd.func24, Tryd.ntmps24
      go_wp2_with fail
      refine (areBytes_any HI.out).mono ?_
      rintro e w1 ⟨rfl, rfl⟩
      rw [HD.out]
      go_wp2_with fail
      refine (isLead_any HT.out).mono ?_
      rintro e w1 ⟨rfl, hb1⟩
      rw [HW.out]
      have HB1 := Lib.hid hb1
      have HT1 : Hid (Tab w1) := HT.out.below hb1 (Nat.le_refl _)
      clear hb1
      go_wp2_with fail
      refine isIn_any.mono ?_
      rintro e w0 ⟨rfl, rfl⟩
      rw [hm]
      have s1 := HB1.out.size
      go_wp2_with (at_builtin; refine wpList_append_ints rfl (.tmp 31) (.tmp 32) rfl w.heap.size (.slice (some ⟨w1.heap.size, 0, none⟩) 1 1) 1 [lead] rfl (OwnI.lit1 w1 lead (by omega)) A n c xs rfl ((HI.out.below HB1.out hB).alloc (by omega) _) (by omega) (by simp; omega) ?_)
      intro v2 w2 ho2 hg2
      have e2 := below_grown (OwnI.lit1 w1 lead (base := w.heap.size) (by omega)) hg2 (by simp; omega)
      have HB2 : Hid (Below w.heap.size w w2) := below_step e2 (HB1.out.alloc (by omega) _) (Nat.le_refl _)
      have HT2 : Hid (Tab w2) := HT.out.keep HB2.out HT.out.lt
      obtain ⟨A2, c2, rfl, hc2, hi2⟩ := ho2.ints HOK.out
      have HI1 := Lib.hid hi2
      have HL := Lib.hid hi2.len
      have hn2 : 1 + n ≤ 61 := by omega
      obtain ⟨n2, hn2e⟩ : ∃ n2, 1 + n = n2 := ⟨_, rfl⟩
      rw [hn2e] at HI1 HL hc2 hn2 ⊢
      clear hn2e ho2 hg2 e2 hi2 HI hB hn60 HT HT1 HB1 s1 hnc hmx
      obtain ⟨ys, hys⟩ : ∃ ys, ys = lead :: xs := ⟨_, rfl⟩
      rw [← hys] at HI1 HL HD1 HOK HS0
      clear hys
      go_upto_region 5 with (fail)
      obtain ⟨d, hdd⟩ : ∃ d, d = decB m ys := ⟨_, rfl⟩
      obtain ⟨dl, db⟩ := d
      have HDD := Lib.hid hdd
      clear hdd
      cases f
      · by_cases hz : n2 = 0
        · have hy0 : ys = [] := List.eq_nil_of_length_eq_zero (by have := HL.out; omega)
          have HR : Hid (d0 = cut (dl, db) 0) := by show _ = _; rw [HDD.out, HS0.out, sm_wait m _ _ (Nat.le_refl _), hy0]; rfl
          clear hy0
          subst hz
          go_wp2_with fail
          have hdec := decoded_any (md := m) HI1.out (Nat.le_refl _) hc2 HT2.out HD1.out
          rw [← HDD.out] at hdec
          refine hdec.mono ?_
          clear hdec
          rintro e w3 ⟨A3, n3, c3, rfl, hc3, hb3, hi3⟩
          have HI3 := Lib.hid hi3
          have HB3 : Hid (Below w.heap.size w w3) := below_step hb3 HB2.out HB2.out.size
          have HS3 := Lib.hid (HB2.out.size)
          clear hb3 hi3
          cases db
          all_goals
            go_wp2
            go_ret3
            have hr := HR.out
            subst hr
            exact ⟨A3, n3, c3, rfl, hc3, HB3.out, HI3.out.more HS3.out (Nat.le_refl _)⟩
        · obtain ⟨k, hk⟩ : ∃ k, n2 = k + 1 := ⟨n2 - 1, by omega⟩
          obtain ⟨bk, o, z, hAe, hbk, hcz, hxz⟩ := HI1.out.at_ (k := k) (by omega)
          have HLL := Lib.hid (lastLead_get (by have := HL.out; omega) hxz.out)
          have HSM : Hid (d0 = cut (decB m (body ys)) (lastLead ys)) := by show _ = _; rw [HS0.out]; exact sm_wait m _ _ (Nat.le_refl _)
          have HK := Lib.hid hk
          have hN1 : (0 : Int) ≤ (n2 : Int) - 1 := by omega
          have hN2 : ((n2 : Int) - 1).toNat = k := by omega
          have hN3 : (n2 : Int) - 1 < (n2 : Int) := by omega
          have hkn : k ≤ n2 := by omega
          have hN5 : (1 : Int) ≤ (n2 : Int) := by omega
          subst hAe
          clear hk
          go_wp2_with fail
          refine (partOf_any HT2.out).mono ?_
          rintro e w2b ⟨rfl, hb2⟩
          have hp2 := part_two z
          have HI1b : Hid (Ints w2b w.heap.size w2.heap.size (some ⟨bk, o, none⟩) n2 ys) := HI1.out.below hb2 (Nat.le_refl _)
          have HBb : Hid (Below w.heap.size w w2b) := below_step hb2 HB2.out HB2.out.size
          have HTb : Hid (Tab w2b) := HT2.out.below hb2 (Nat.le_refl _)
          have hsb := hb2.size
          have hcz2 := (hb2.cell (p := ⟨bk, o + k, none⟩) (by show bk < w2.heap.size; omega)).trans hcz
          clear hb2 hcz HI1
          generalize partN z = q at *
          cases hlz : leadB z
          · have e1 : (q == 2) = false := by rw [hp2, hlz]
            have HR : Hid (d0 = cut (dl, db) 0) := by
              show _ = _
              have h1 := HLL.out
              rw [hlz] at h1
              simp only [Bool.false_eq_true, if_false] at h1
              have h2 : body ys = ys := by unfold body; rw [if_pos h1]
              rw [HSM.out, h1, h2, HDD.out]
            clear hp2 hlz HSM
            go_wp2_with fail
            have hdec := decoded_any (md := m) HI1b.out (by omega) hc2 HTb.out HD1.out
            rw [← HDD.out] at hdec
            refine hdec.mono ?_
            clear hdec
            rintro e w3 ⟨A3, n3, c3, rfl, hc3, hb3, hi3⟩
            have HI3 := Lib.hid hi3
            have HB3 : Hid (Below w.heap.size w w3) := below_step hb3 HBb.out HBb.out.size
            have HS3 := Lib.hid (HBb.out.size)
            clear hb3 hi3
            cases db
            all_goals
              go_wp2
              go_ret3
              have hr := HR.out
              subst hr
              exact ⟨A3, n3, c3, rfl, hc3, HB3.out, HI3.out.more HS3.out (Nat.le_refl _)⟩
          · have e1 : (q == 2) = true := by rw [hp2, hlz]
            have hz0 := leadB_iff.1 hlz
            clear HDD dl db
            obtain ⟨d, hdd⟩ : ∃ d, d = decB m (ys.take k) := ⟨_, rfl⟩
            obtain ⟨dl, db⟩ := d
            have HDD := Lib.hid hdd
            clear hdd
            have HR : Hid (d0 = cut (dl, db) z) := by
              show _ = _
              have h1 := HLL.out
              rw [hlz] at h1
              simp only [if_true] at h1
              have h3 : ys.length - 1 = k := by have h2 := HL.out; have h3 := HK.out; omega
              have h2 : body ys = ys.take k := by unfold body; rw [h1, if_neg (by omega), h3]
              rw [HSM.out, h1, h2, HDD.out]
            clear hp2 hlz HSM
            have HI1c : Hid (Ints w2b w.heap.size w2.heap.size (some ⟨bk, o, none⟩) k (ys.take k)) := HI1b.out.take hkn
            have hkc : k ≤ c2 := by omega
            have hkcI : (k : Int) ≤ (c2 : Int) := by omega
            have HD2 : Hid (bytes1 (ys.take k)) := bytes1_take HD1.out
            go_wp2_with fail
            have hdec := decoded_any (md := m) HI1c.out (by omega) hkc HTb.out HD2.out
            rw [← HDD.out] at hdec
            refine hdec.mono ?_
            clear hdec
            rintro e w3 ⟨A3, n3, c3, rfl, hc3, hb3, hi3⟩
            have HI3 := Lib.hid hi3
            have HB3 : Hid (Below w.heap.size w w3) := below_step hb3 HBb.out HBb.out.size
            have HS3 := Lib.hid (HBb.out.size)
            clear hb3 hi3
            cases db
            all_goals
              go_wp2
              go_ret3
              have hr := HR.out
              subst hr
              exact ⟨A3, n3, c3, rfl, hc3, HB3.out, HI3.out.more HS3.out (Nat.le_refl _)⟩
      · have HR : Hid (d0 = cut (dl, db) 0) := by show _ = _; rw [HDD.out, HS0.out]; exact sm_dec m _ _ (Nat.le_refl _)
        by_cases hz : n2 = 0
        · subst hz
          go_wp2_with fail
          have hdec := decoded_any (md := m) HI1.out (Nat.le_refl _) hc2 HT2.out HD1.out
          rw [← HDD.out] at hdec
          refine hdec.mono ?_
          clear hdec
          rintro e w3 ⟨A3, n3, c3, rfl, hc3, hb3, hi3⟩
          have HI3 := Lib.hid hi3
          have HB3 : Hid (Below w.heap.size w w3) := below_step hb3 HB2.out HB2.out.size
          have HS3 := Lib.hid (HB2.out.size)
          clear hb3 hi3
          cases db
          all_goals
            go_wp2
            go_ret3
            have hr := HR.out
            subst hr
            exact ⟨A3, n3, c3, rfl, hc3, HB3.out, HI3.out.more HS3.out (Nat.le_refl _)⟩
        · have hzI : (1 : Int) ≤ (n2 : Int) := by omega
          have hzJ : 0 ≤ (n2 : Int) - 1 := by omega
          clear hz
          go_wp2_with fail
          have hdec := decoded_any (md := m) HI1.out (Nat.le_refl _) hc2 HT2.out HD1.out
          rw [← HDD.out] at hdec
          refine hdec.mono ?_
          clear hdec
          rintro e w3 ⟨A3, n3, c3, rfl, hc3, hb3, hi3⟩
          have HI3 := Lib.hid hi3
          have HB3 : Hid (Below w.heap.size w w3) := below_step hb3 HB2.out HB2.out.size
          have HS3 := Lib.hid (HB2.out.size)
          clear hb3 hi3
          cases db
          all_goals
            go_wp2
            go_ret3
            have hr := HR.out
            subst hr
            exact ⟨A3, n3, c3, rfl, hc3, HB3.out, HI3.out.more HS3.out (Nat.le_refl _)⟩
theorem DecodeSome_any {A : Option Addr} {n c L B : Nat} {xs : List Int} {lead m : Int} {f : Bool} {w : World} (h : Ints w L B A n xs) (hB : B ≤ w.heap.size) (hnc : n ≤ c) (hT : Tab w) :
    Calls Tryd.prog 24 #[.slice A n c, .int .i64 lead, .bool f, .int .i64 m] w (DsPost (dsR m f xs lead) w) := DecodeSome_to h hB hnc hT rfl
end Go.Proofs.YtkgjcoakeliocaaDoor
