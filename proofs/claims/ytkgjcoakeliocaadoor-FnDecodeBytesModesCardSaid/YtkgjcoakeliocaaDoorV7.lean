/- impl's DecodeBytes, CountPoints, EncodePoints. -/
import Derived.Test.YtkgjcoakeliocaaDoorV6
namespace Go.Proofs.YtkgjcoakeliocaaDoor
open Go.ChangeShapes Go.WideShapes Go.ChangeAt Go.RowKit
set_option linter.unusedSimpArgs false
set_option linter.unusedVariables false
set_option maxRecDepth 100000

def cpOut (xs : List Int) : Int := if bytesB xs then (((decB 2 xs).1.length : Nat) : Int) else -1
theorem decP_true {m : Int} (h : ¬ m = 0) : ∀ l : List Int, (decP m l).2 = true
  | [] => rfl
  | p :: r => by
    have h1 : stp m p = false := by simp [stp, h]
    simp only [decP, h1, Bool.false_eq_true, if_false]
    exact decP_true h r
theorem decB_true {m : Int} (h : ¬ m = 0) (xs : List Int) : (decB m xs).2 = true := decP_true h _
theorem ds_all {m : Int} {xs : List Int} (h : dsOk xs 0 m = true) : dsR m true xs 0 = cut (decB m xs) 0 := by rw [ds_yes h]; exact sm_dec m _ _ (Nat.le_refl _)
theorem ds_two {xs : List Int} : dsOk xs 0 2 = bytesB xs := by
  have h1 : waitB 0 = true := rfl
  have h2 : inB 2 0 3 = true := rfl
  simp [dsOk, h1, h2]
set_option maxHeartbeats 2000000 in
theorem DecodeBytes_any {A : Option Addr} {n c L B : Nat} {xs : List Int} {m : Int} {w : World} (h : Ints w L B A n xs) (hB : B ≤ w.heap.size) (hnc : n ≤ c) (hT : Tab w) :
    Calls Tryd.prog 21 #[.slice A n c, .int .i64 m] w (ListBPost (dsR m true xs 0).1 (dsR m true xs 0).2.2 w) := by
  go_enter Tryd.func21, Tryd.ntmps21
  go_wp2_with fail
  refine (DecodeSome_any h hB hnc hT).mono ?_
  rintro e w1 ⟨A1, n1, c1, rfl, hc1, hb1, hi1⟩
  have HB := Lib.hid hb1
  have HI := Lib.hid hi1
  clear hb1 hi1
  generalize dsR m true xs 0 = d at *
  obtain ⟨d1, d2, d3⟩ := d
  go_wp2
  go_ret2
  exact ⟨A1, n1, c1, rfl, hc1, HB.out, HI.out⟩
set_option maxHeartbeats 2000000 in
theorem CountPoints_any {A : Option Addr} {n c L B : Nat} {xs : List Int} {w : World} (h : Ints w L B A n xs) (hB : B ≤ w.heap.size) (hnc : n ≤ c) (hT : Tab w) :
    Calls Tryd.prog 33 #[.slice A n c] w (IntB (cpOut xs) w) := by
  have HC := Lib.hid (DecodeBytes_any (m := 2) h hB hnc hT)
  cases hv : bytesB xs
  · have HE : Hid (cpOut xs = -1) := by show _ = _; simp [cpOut, hv]
    have HD : Hid (dsR 2 true xs 0 = ([], 0, false)) := ds_no (by rw [ds_two, hv])
    rw [HE.out]
    rw [HD.out] at HC
    clear hv
    go_enter Tryd.func33, Tryd.ntmps33
    go_wp2_with fail
    refine HC.out.mono ?_
    rintro e w1 ⟨A1, n1, c1, rfl, hc1, hb1, hi1⟩
    have HB := Lib.hid hb1
    clear hb1 hi1
    go_wp2
    go_ret
    exact ⟨rfl, HB.out⟩
  · have HE : Hid (cpOut xs = (((decB 2 xs).1.length : Nat) : Int)) := by show _ = _; simp [cpOut, hv]
    have HD : Hid (dsR 2 true xs 0 = ((decB 2 xs).1, 0, true)) := by
      show _ = _
      rw [ds_all (by rw [ds_two, hv])]
      simp [cut, decB_true]
    rw [HE.out]
    rw [HD.out] at HC
    clear hv HE HD
    generalize (decB 2 xs).1 = R at *
    go_enter Tryd.func33, Tryd.ntmps33
    go_wp2_with fail
    refine HC.out.mono ?_
    rintro e w1 ⟨A1, n1, c1, rfl, hc1, hb1, hi1⟩
    have HB := Lib.hid hb1
    have HL := Lib.hid hi1.len
    clear hb1 hi1
    go_wp2
    go_ret
    exact ⟨ret_int (by rw [HL.out]), HB.out⟩
/-- The bytes of a point, and of points. -/
def enc1 (p : Int) : List Int := if 2047 < p then [p - 3000] else if p < 128 then [p] else [192 + p / 64, 128 + p % 64]
def encL (xs : List Int) : List Int := xs.flatMap enc1
def encOut (xs : List Int) : List Int := if ptsB xs then encL xs else []
theorem enc1_len (p : Int) : (enc1 p).length ≤ 2 := by
  unfold enc1
  split
  · simp
  · split <;> simp
theorem encL_len (xs : List Int) : (encL xs).length ≤ 2 * xs.length := by
  induction xs with
  | nil => simp [encL]
  | cons x xs ih =>
    have e : encL (x :: xs) = enc1 x ++ encL xs := by simp [encL]
    rw [e, List.length_append, List.length_cons]
    have := enc1_len x
    omega
theorem encL_snoc {xs : List Int} {k : Nat} {x : Int} (h : xs[k]? = some x) : encL (xs.take (k + 1)) = encL (xs.take k) ++ enc1 x := by
  rw [take_snoc h]; simp [encL]
theorem ptB_in {p : Int} (h : ptB p = true) : 0 ≤ p ∧ p ≤ 3255 ∧ (2047 < p → 3128 ≤ p) := by
  unfold ptB at h
  rw [Bool.or_eq_true, inB_iff, inB_iff] at h
  omega
theorem enc1_byte {p : Int} (h : ptB p = true) : ∀ x ∈ enc1 p, 0 ≤ x ∧ x ≤ 255 := by
  have hp := ptB_in h
  intro x hx
  unfold enc1 at hx
  split at hx
  · simp at hx; omega
  · split at hx
    · simp at hx; omega
    · simp at hx
      rcases hx with rfl | rfl <;> omega
theorem encL_ok {xs : List Int} (h : xs.all ptB = true) : ∀ x ∈ encL xs, okInt x := by
  rw [List.all_eq_true] at h
  intro x hx
  obtain ⟨p, hp, hx⟩ := List.mem_flatMap.1 hx
  have := enc1_byte (h p hp) x hx
  unfold okInt; omega
theorem lit2 (w : World) (x y : Int) (h : okInt x) (h' : okInt y) : Ints (w.alloc (.cells #[.int .i64 x, .int .i64 y] 3)) w.heap.size (w.heap.size + 1) (some ⟨w.heap.size, 0, none⟩) 2 [x, y] :=
  ⟨rfl, by omega, (fun z hz => by simp at hz; rcases hz with rfl | rfl <;> assumption), fun _ => ⟨w.heap.size, 0, rfl, Nat.le_refl _, Nat.lt_succ_self _, fun j z hz => by
    rw [Nat.zero_add]
    exact (Box.new w _ [.int .i64 x, .int .i64 y]).2 j (.int .i64 z) (by
      match j with
      | 0 => simp at hz ⊢; exact hz
      | 1 => simp at hz ⊢; exact hz
      | j + 2 => simp at hz)⟩⟩
theorem one_new {w0 w : World} {x : Int} (hb : Below w0.heap.size w0 w) (h : okInt x) : ListPost [x] w0 (.returned (.slice (some ⟨w.heap.size, 0, none⟩) 1 1)) (w.alloc (.cells #[.int .i64 x] 3)) :=
  ⟨_, _, _, rfl, Nat.le_refl _, hb.alloc hb.size _, (lit1 w x h).more hb.size (by simp)⟩
theorem two_new {w0 w : World} {x y : Int} (hb : Below w0.heap.size w0 w) (h : okInt x) (h' : okInt y) : ListPost [x, y] w0 (.returned (.slice (some ⟨w.heap.size, 0, none⟩) 2 2)) (w.alloc (.cells #[.int .i64 x, .int .i64 y] 3)) :=
  ⟨_, _, _, rfl, Nat.le_refl _, hb.alloc hb.size _, (lit2 w x y h h').more hb.size (by simp)⟩

set_option maxHeartbeats 2000000 in
theorem encoded_any {p : Int} {w : World} (hp : ptB p = true) (hT : Tab w) : Calls Tryd.prog 49 #[.int .i32 p] w (ListPost (enc1 p) w) := by
  have HT := Lib.hid hT
  obtain ⟨h0, h1, h2⟩ := ptB_in hp
  by_cases h : 2047 < p
  · have HE : Hid (enc1 p = [p - 3000]) := by show _ = _; simp [enc1, h]
    rw [HE.out]
    go_enter Tryd.func49, Tryd.ntmps49
    go_wp2_with (go_at_call 53; refine isKept_any.mono ?_; rintro e w' ⟨rfl, rfl⟩)
    go_ret
    exact one_new (Below.refl _ _) (by unfold okInt; omega)
  · by_cases h3 : p < 128
    · have HE : Hid (enc1 p = [p]) := by show _ = _; simp [enc1, h, h3]
      rw [HE.out]
      have h4 : partN p = 1 := by have := part_one h0; simpa [h3] using this
      go_enter Tryd.func49, Tryd.ntmps49
      go_wp2_with (go_at_call 53; refine isKept_any.mono ?_; rintro e w' ⟨rfl, rfl⟩)
      refine (partOf_any HT.out).mono ?_
      rintro e w1 ⟨rfl, hb1⟩
      rw [h4]
      have HB := Lib.hid hb1
      clear hb1
      go_wp2
      go_ret
      exact one_new HB.out (by unfold okInt; omega)
    · have HE : Hid (enc1 p = [192 + p / 64, 128 + p % 64]) := by show _ = _; simp [enc1, h, h3]
      rw [HE.out]
      have h4 : (partN p == 1) = false := by have := part_one h0; simpa [h3] using this
      have b1 : p % 64 < 64 := Int.emod_lt_of_pos _ (by omega)
      have b2 : 0 ≤ p % 64 := Int.emod_nonneg _ (by omega)
      have b3 : 0 ≤ p / 64 ∧ p / 64 ≤ 64 := by omega
      have m1 : p.tmod 64 = p % 64 := Int.tmod_eq_emod_of_nonneg h0
      have m2 : p.tdiv 64 = p / 64 := Int.tdiv_eq_ediv_of_nonneg h0
      go_enter Tryd.func49, Tryd.ntmps49
      go_wp2_with (go_at_call 53; refine isKept_any.mono ?_; rintro e w' ⟨rfl, rfl⟩)
      refine (partOf_any HT.out).mono ?_
      rintro e w1 ⟨rfl, hb1⟩
      have HB := Lib.hid hb1
      clear hb1
      generalize partN p = q at *
      go_wp2
      go_ret
      exact two_new HB.out (by unfold okInt; omega) (by unfold okInt; omega)
set_option maxHeartbeats 4000000 in
theorem EncodePoints_any {A : Option Addr} {n c L B : Nat} {xs : List Int} {w : World} (h : Ints w L B A n xs) (hB : B ≤ w.heap.size) (hT : Tab w) :
    Calls Tryd.prog 17 #[.slice A n c] w (ListPost (encOut xs) w) := by
  have HI := Lib.hid h
  have HT := Lib.hid hT
  clear h hT
  cases hv : ptsB xs
  · have HE : Hid (encOut xs = []) := by show _ = _; simp [encOut, hv]
    rw [HE.out]
    have HV := Lib.hid hv
    clear hv
    go_enter Tryd.func17, Tryd.ntmps17
    go_wp2_with fail
    refine (ValidPoints_any HI.out).mono ?_
    rintro e w1 ⟨rfl, rfl⟩
    rw [HV.out]
    go_wp2
    go_ret
    exact ⟨none, 0, 0, rfl, Nat.le_refl _, Below.refl _ _, (Ints.nil _ _ _ 0 _).1⟩
  · have HE : Hid (encOut xs = encL xs) := by show _ = _; simp [encOut, hv]
    rw [HE.out]
    have HV := Lib.hid hv
    unfold ptsB at hv
    rw [Bool.and_eq_true] at hv
    have hn60 : n ≤ 60 := by rw [HI.out.len]; simpa using hv.1
    have HA := Lib.hid hv.2
    have HL := Lib.hid HI.out.len
    clear hv
    go_enter Tryd.func17, Tryd.ntmps17
    go_wp2_with fail
    refine (ValidPoints_any HI.out).mono ?_
    rintro e w1 ⟨rfl, rfl⟩
    rw [HV.out]
    go_wp2
    go_loopw [3, 11] (fun o i wr => ∃ (j : Nat) (A2 : Option Addr) (k2 c2 : Nat), j ≤ n ∧ i = .int .i64 j ∧ o = .slice A2 k2 c2 ∧ k2 ≤ 2 * j ∧ Hid (OwnI wr w.heap.size (.slice A2 k2 c2) k2 (encL (xs.take j))) ∧ Hid (Below w.heap.size w wr)) (fun _ i _ => n - (intOf i).toNat)
    case atStart => exact ⟨0, none, 0, 0, Nat.zero_le _, rfl, rfl, by omega, OwnI.nil_ _ _, Below.refl _ _⟩
    case round =>
      obtain ⟨j, A2, k2, c2, hj, rfl, rfl, hk2, HO, HB1⟩ := hrel
      have hsz := HB1.out.size
      have HI1 : Hid (Ints wr L B A n xs) := HI.out.below HB1.out hB
      have HT1 : Hid (Tab wr) := HT.out.keep HB1.out HT.out.lt
      have OK : Hid (∀ y ∈ encL (xs.take j), okInt y) := encL_ok (by
        have := HA.out; rw [List.all_eq_true] at this ⊢; exact fun x hx => this x (List.mem_of_mem_take hx))
      by_cases hlt : j < n
      · obtain ⟨b, o, x, rfl, _, hc, hx⟩ := HI1.out.at_ hlt
        have HS := Lib.hid (encL_snoc hx.out)
        have OK2 : Hid (∀ y ∈ encL (xs.take (j + 1)), okInt y) := encL_ok (by
          have := HA.out; rw [List.all_eq_true] at this ⊢; exact fun x hx => this x (List.mem_of_mem_take hx))
        have hpx : ptB x = true := by have := HA.out; rw [List.all_eq_true] at this; exact this x (List.mem_of_getElem? hx.out)
        have hpi := ptB_in hpx
        go_wp2_with fail
        refine (encoded_any hpx HT1.out).mono ?_
        rintro e w3 ⟨A4, n4, c4, rfl, hc4, hb4, hi4⟩
        have s4 := hb4.size
        have hl4 : n4 ≤ 2 := by have h1 := hi4.len; have h2 := enc1_len x; omega
        have HO4 := Lib.hid (HO.out.below hb4 (Nat.le_refl _))
        have HB4 : Hid (Below w.heap.size w w3) := below_step hb4 HB1.out hsz
        have HJ4 := Lib.hid hi4
        clear hb4 hi4 HO
        have hq3 : k2 + n4 ≤ 16777216 := by omega
        have hq4 : w.heap.size ≤ w3.heap.size := by omega
        go_wp2_with (at_builtin; refine wpList_append_ints rfl (.tmp 15) (.tmp 18) rfl w.heap.size (.slice A2 k2 c2) k2 (encL (xs.take j)) rfl HO4.out A4 n4 c4 (enc1 x) rfl HJ4.out hq3 hq4 ?_)
        intro v5 w5 ho5 hg5
        rw [← HS.out] at ho5
        have e5 := below_grown HO4.out hg5 (by omega)
        have s5 := e5.size
        obtain ⟨A5, c5, rfl, hc5, _⟩ := ho5.ints OK2.out
        have HO5 := Lib.hid ho5
        have HB5 : Hid (Below w.heap.size w w5) := HB4.out.trans e5
        clear ho5 hg5 e5
        go_wp2
        go_roundw
        case rel => exact ⟨j + 1, A5, _, c5, by omega, by go_num, rfl, by omega, HO5, HB5⟩
        case measure => simp [intOf]; omega
      · obtain rfl : n = j := by omega
        have HTk : Hid (xs.take n = xs) := List.take_of_length_le (by have := HL.out; omega)
        rw [HTk.out] at HO OK
        go_wp2
        go_ret
        exact listPost_own HB1.out HO.out OK.out
end Go.Proofs.YtkgjcoakeliocaaDoor
