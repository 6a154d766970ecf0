/- impl's firstPoint, SyncAt, isLead's users without an iterator. -/
import Derived.Test.YtkgjcoakeliocaaDoorV1
namespace Go.Proofs.YtkgjcoakeliocaaDoor
open Go.ChangeShapes Go.WideShapes Go.ChangeAt Go.RowKit
set_option linter.unusedSimpArgs false
set_option linter.unusedVariables false
set_option maxRecDepth 100000

def FptPost (ys : List Int) (w : World) (e : Ending) (w' : World) : Prop := e = .returned (.tuple #[.int .i32 (fpt ys), .int .i64 ((fsz ys : Nat) : Int)]) ∧ Below w.heap.size w w'
theorem low_fpt {b : Int} {r : List Int} (h : b < 128) : fpt (b :: r) = b ∧ fsz (b :: r) = 1 := by
  cases r with
  | nil => simp [fpt, fsz, one, h]
  | cons c s => simp [fpt, fsz, one, h, notail (c := c) h]
theorem high_fpt {b : Int} {r : List Int} (h : ¬ b < 128) (hp : ∀ c, r[0]? = some c → pairB b c = false) : fpt (b :: r) = 3000 + b ∧ fsz (b :: r) = 1 := by
  cases r with
  | nil => simp [fpt, fsz, one, h]
  | cons c s => simp [fpt, fsz, one, h, hp c rfl]
theorem two_fpt {b c : Int} {s : List Int} (hp : pairB b c = true) : fpt (b :: c :: s) = two b c ∧ fsz (b :: c :: s) = 2 := by simp [fpt, fsz, hp]
theorem head_of {ys : List Int} {b : Int} (h : ys[0]? = some b) : ∃ r, ys = b :: r := by
  cases ys with
  | nil => simp at h
  | cons x r => simp at h; subst h; exact ⟨r, rfl⟩

set_option maxHeartbeats 4000000 in
theorem firstPoint_any {A : Option Addr} {n c : Nat} {ys : List Int} {w : World} {L B : Nat} (h : Ints w L B A n ys) (hB : B ≤ w.heap.size) (hn : 0 < n) (hb : allB ys 0 255 = true) (hT : Tab w) :
    Calls Tryd.prog 73 #[.slice A n c] w (FptPost ys w) := by
  have HT := Lib.hid hT
  have hm := h.max
  have HL := Lib.hid h.len
  obtain ⟨bk, o, b, rfl, hbk, hc, hx⟩ := h.at_ hn
  obtain ⟨r, rfl⟩ := head_of hx.out
  have hb' := hb
  rw [allB_cons, Bool.and_eq_true] at hb'
  obtain ⟨h0, h255⟩ := inB_iff.1 hb'.1
  simp only [Nat.add_zero] at hc
  clear hb' hx
  by_cases h1 : b < 128
  · have HF := Lib.hid (low_fpt (r := r) h1)
    unfold FptPost
    rw [HF.out.1, HF.out.2]
    have hp : partN b = 1 := by have := part_one h0; simpa [h1] using this
    go_enter Tryd.func73, Tryd.ntmps73
    go_wp2_with fail
    refine (partOf_any HT.out).mono ?_
    rintro e w1 ⟨rfl, hb1⟩
    rw [hp]
    have HB := Lib.hid hb1
    clear hb1
    go_wp2
    go_ret2
    exact ⟨rfl, HB.out⟩
  · have hp : (partN b == 1) = false := by have := part_one h0; simpa [h1] using this
    by_cases hn1 : 1 < n
    · obtain ⟨bk', o', c2, e1, _, hc2, hx2⟩ := h.at_ hn1
      injection e1 with e1
      injection e1 with e1 e2 _
      subst e1 e2
      have hbd := allB_drop hb 1
      have hr : r[0]? = some c2 := by have := hx2.out; simpa using this
      obtain ⟨s, rfl⟩ := head_of hr
      clear hr hx2
      simp only [List.drop_succ_cons, List.drop_zero] at hbd
      rw [allB_cons, Bool.and_eq_true] at hbd
      obtain ⟨k0, k255⟩ := inB_iff.1 hbd.1
      clear hbd
      have hn1' : (n : Int) > 1 := by omega
      cases hpp : pairB b c2
      · have HF := Lib.hid (high_fpt (r := c2 :: s) h1 (fun c hc => by simp at hc; subst hc; exact hpp))
        unfold FptPost
        rw [HF.out.1, HF.out.2]
        have HC := Lib.hid hc; have HC2 := Lib.hid hc2
        go_enter Tryd.func73, Tryd.ntmps73
        go_wp2_with fail
        refine (partOf_any HT.out).mono ?_
        rintro e w1 ⟨rfl, hb1⟩
        generalize partN b = q at *
        have HT1 := Lib.hid (HT.out.below hb1 (Nat.le_refl _))
        have HB := Lib.hid hb1
        clear hc hc2
        have hc := (hb1.cell (p := ⟨bk, o, none⟩) (by show bk < _; omega)).trans HC.out
        have hc2 := (hb1.cell (p := ⟨bk, o + 1, none⟩) (by show bk < _; omega)).trans HC2.out
        clear hb1
        go_wp2_with fail
        refine (isPair_any HT1.out).mono ?_
        rintro e w2 ⟨rfl, hb2⟩
        rw [hpp]
        have HB2 := Lib.hid (HB.out.trans (hb2.mono HB.out.size))
        clear hb2
        go_wp2
        go_ret2
        exact ⟨rfl, HB2.out⟩
      · have HF := Lib.hid (two_fpt (s := s) hpp)
        have hpi := pairB_iff.1 hpp
        unfold FptPost
        rw [HF.out.1, HF.out.2]
        have HC := Lib.hid hc; have HC2 := Lib.hid hc2
        go_enter Tryd.func73, Tryd.ntmps73
        go_wp2_with fail
        refine (partOf_any HT.out).mono ?_
        rintro e w1 ⟨rfl, hb1⟩
        generalize partN b = q at *
        have HT1 := Lib.hid (HT.out.below hb1 (Nat.le_refl _))
        have HB := Lib.hid hb1
        clear hc hc2
        have hc := (hb1.cell (p := ⟨bk, o, none⟩) (by show bk < _; omega)).trans HC.out
        have hc2 := (hb1.cell (p := ⟨bk, o + 1, none⟩) (by show bk < _; omega)).trans HC2.out
        clear hb1
        go_wp2_with fail
        refine (isPair_any HT1.out).mono ?_
        rintro e w2 ⟨rfl, hb2⟩
        rw [hpp]
        have HB2 := Lib.hid (HB.out.trans (hb2.mono HB.out.size))
        have s1 := HB.out.size
        have hc2' := (hb2.cell (p := ⟨bk, o + 1, none⟩) (by show bk < _; omega)).trans hc2
        clear hb2 hc hc2
        go_wp2
        go_ret2
        exact ⟨rfl, HB2.out⟩
    · obtain rfl : n = 1 := by omega
      have hr0 : r = [] := by have := HL.out; simp at this; exact this
      subst hr0
      have HF := Lib.hid (high_fpt (r := []) h1 (fun c hc => by simp at hc))
      unfold FptPost
      rw [HF.out.1, HF.out.2]
      go_enter Tryd.func73, Tryd.ntmps73
      go_wp2_with fail
      refine (partOf_any HT.out).mono ?_
      rintro e w1 ⟨rfl, hb1⟩
      generalize partN b = q at *
      have HB := Lib.hid hb1
      clear hb1
      go_wp2
      go_ret2
      exact ⟨rfl, HB.out⟩
/-- Where the point begins to which the byte with the index i belongs. -/
def syL (xs : List Int) (i : Nat) : Int := if 0 < i ∧ (match xs[i - 1]?, xs[i]? with | some b, some c => pairB b c | _, _ => false) = true then (i : Int) - 1 else (i : Int)
def syOut (xs : List Int) (i : Int) : Int := if bytesB xs && inB i 0 ((xs.length : Int) - 1) then syL xs i.toNat else -1
set_option maxHeartbeats 4000000 in
theorem SyncAt_any {A : Option Addr} {n c : Nat} {xs : List Int} {i : Int} {w : World} {L B : Nat} (h : Ints w L B A n xs) (hB : B ≤ w.heap.size) (hT : Tab w) :
    Calls Tryd.prog 37 #[.slice A n c, .int .i64 i] w (IntB (syOut xs i) w) := by
  have HT := Lib.hid hT
  have hm := h.max
  have HL := Lib.hid h.len
  cases hv : bytesB xs
  · have HV := Lib.hid hv
    have HE : Hid (syOut xs i = -1) := by show _ = _; simp [syOut, hv]
    rw [HE.out]
    clear hv
    go_enter Tryd.func37, Tryd.ntmps37
    go_wp2_with fail
    refine (areBytes_any h).mono ?_
    rintro e w1 ⟨rfl, rfl⟩
    rw [HV.out]
    go_wp2
    go_ret
    exact ⟨rfl, Below.refl _ _⟩
  · have HV := Lib.hid hv
    have hn60 : n ≤ 60 := by rw [HL.out]; exact bytesB_le hv
    cases hi : inB i 0 ((n : Int) - 1)
    · have HE : Hid (syOut xs i = -1) := by show _ = _; rw [HL.out] at hi; simp [syOut, hi]
      rw [HE.out]
      clear hv
      go_enter Tryd.func37, Tryd.ntmps37
      go_wp2_with fail
      refine (areBytes_any h).mono ?_
      rintro e w1 ⟨rfl, rfl⟩
      rw [HV.out]
      go_wp2_with (go_at_call 58; refine (isIn_any).mono ?_; rintro e w' ⟨rfl, rfl⟩)
      go_ret
      exact ⟨rfl, Below.refl _ _⟩
    · have HE : Hid (syOut xs i = syL xs i.toNat) := by show _ = _; rw [HL.out] at hi; simp [syOut, hi, hv]
      rw [HE.out]
      obtain ⟨h0, h1⟩ := inB_iff.1 hi
      clear hv
      obtain ⟨k, rfl⟩ : ∃ k : Nat, i = k := ⟨i.toNat, by omega⟩
      rw [Int.toNat_natCast]
      have hk : k < n := by omega
      obtain ⟨bk, o, x, rfl, hbk, hc, hx⟩ := h.at_ hk
      by_cases hk0 : k = 0
      · subst hk0
        have HS : Hid (syL xs 0 = 0) := by show _ = _; simp [syL]
        rw [HS.out]
        clear hc
        have hi2 : inB 0 0 ((n : Int) - 1) = true := by simpa using hi
        go_enter Tryd.func37, Tryd.ntmps37
        go_wp2_with fail
        refine (areBytes_any h).mono ?_
        rintro e w1 ⟨rfl, rfl⟩
        rw [HV.out]
        go_wp2_with (go_at_call 58; refine (isIn_any).mono ?_; rintro e w' ⟨rfl, rfl⟩)
        go_quiet (fail)
        go_wp2
        go_ret
        exact ⟨rfl, below_drewN (Below.refl _ _) _⟩
      · obtain ⟨bk', o', y, e1, _, hc1, hy⟩ := h.at_ (k := k - 1) (by omega)
        injection e1 with e1
        injection e1 with e1 e2 _
        subst e1 e2
        have hk1 : ((k - 1 : Nat) : Int) = (k : Int) - 1 := by omega
        have HS : Hid (syL xs k = if pairB y x then (k : Int) - 1 else (k : Int)) := by
          show _ = _
          unfold syL
          rw [hx.out, hy.out]
          simp only [show 0 < k by omega, true_and]
        rw [HS.out]
        have b1 : (0 : Int) < (k : Int) := by omega
        have b2 : (k : Int) - 1 < (n : Int) := by omega
        have b3 : (0 : Int) ≤ (k : Int) - 1 := by omega
        have b4 : ((k : Int) - 1).toNat = k - 1 := by omega
        have b5 : (k : Int) < (n : Int) := by omega
        have b6 : 0 < k := by omega
        have b7 : (1 : Int) ≤ (k : Int) := by omega
        have b8 : 1 ≤ k := by omega
        have b9 : k - 1 < n := by omega
        have b10 : IntKind.i64.wrap ((k : Int) - 1) = (k : Int) - 1 := IntWalk.i64_in _ (by omega)
        have HC := Lib.hid hc; have HC1 := Lib.hid hc1
        clear hk1 hk0
        cases hpp : pairB y x
        all_goals
          go_enter Tryd.func37, Tryd.ntmps37
          go_wp2_with fail
          refine (areBytes_any h).mono ?_
          rintro e w1 ⟨rfl, rfl⟩
          rw [HV.out]
          go_wp2_with (go_at_call 58; refine (isIn_any).mono ?_; rintro e w' ⟨rfl, rfl⟩)
          go_region_held3 (fun w' => w'.cell? ⟨bk, o + k, none⟩ = some (.int .i64 x) ∧ w'.cell? ⟨bk, o + (k - 1), none⟩ = some (.int .i64 y)) (go_keep)
            (first | (go_at_call 67; (with_reducible refine (isPair_any HT.out.drew).mono ?_); rintro e w1 ⟨rfl, hb1⟩; rw [hpp]; have q1 := (hb1.cell (p := ⟨bk, o + k, none⟩) (by show bk < w.heap.size; omega)).trans HC.out; have q2 := (hb1.cell (p := ⟨bk, o + (k - 1), none⟩) (by show bk < w.heap.size; omega)).trans HC1.out; have HB1 := Lib.hid hb1; clear hb1 hc hc1) | fail)
          go_wp2
          go_ret
          exact ⟨rfl, below_step HB1.out (Below.refl _ _).drew (Nat.le_refl _)⟩
end Go.Proofs.YtkgjcoakeliocaaDoor
