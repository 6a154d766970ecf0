/- The law of promise 63: all ways to decode agree where nothing is wrong, and up to there. No conditions. -/
import Derived.Test.YtkgjcoakeliocaaDoorR1
import Derived.Test.YtkgjcoakeliocaaDoorR2
import Derived.Test.YtkgjcoakeliocaaDoorVB
import Derived.Test.YtkgjcoakeliocaaDoorG1
import Derived.Test.YtkgjcoakeliocaaDoorCards
import Derived.Test.YtkgjcoakeliocaaDoorTie
set_option maxRecDepth 10000
namespace Go.Proofs.YtkgjcoakeliocaaDoor
open Go.ChangeShapes Go.WideShapes Go.ChangeAt Go.RowKit
set_option linter.unusedSimpArgs false
set_option linter.unusedVariables false
namespace LawDecodeBytesModes
set_option maxHeartbeats 8000000 in
theorem walk (A : Option Addr) (n c : Nat) (w : World) (h : BytesIn w w.heap.size A n) (hnc : n ≤ c) (hm : n ≤ 9223372036854775807) (HT : Tab w) :
    Calls Tryd.prog 8 #[.slice A n c] w (BoolB true w) := by
  have HBY := Lib.hid h
  clear h
  have EB := Lib.hid (Below.refl w.heap.size w)
  have tl := HT.lt
  have TB : Hid (Box w 0 tabL) := HT
  clear HT
  by_cases hbig : (1048576 : Int) < (n : Int)
  · go_enter Tryd.func8, Tryd.ntmps8
    go_wp2
    go_ret
    exact ⟨rfl, Below.refl _ _⟩
  go_enter Tryd.func8, Tryd.ntmps8
  go_wp2_with fail
  refine (DrawDecodeBytes_any HBY.out (by omega) hnc).mono ?_
  rintro e w1 ⟨Ad, nd, cd, Dd, zm, rfl, hcd, hnd, hb, hl, hzm⟩
  (try simp only [World.size_alloc, World.size_setCell, World.size_drew] at hb)
  have HB := Lib.hid hb
  clear hb
  have s1 := HB.out.size
  (try simp only [World.size_alloc, World.size_setCell, World.size_drew] at s1)
  replace TB := Lib.hid (TB.out.below HB.out (by omega))
  replace EB := Lib.hid (below_step HB.out EB.out (by omega))
  clear HB
  have d1 := Lib.hid hl
  clear hl HBY
  obtain ⟨L0, b0, hL0⟩ : ∃ L b, ((dsR zm true Dd 0).1, (dsR zm true Dd 0).2.2) = (L, b) := ⟨_, _, rfl⟩
  have HL0 := Lib.hid hL0
  clear hL0
  go_wp2_with fail
  refine (to_lb (DecodeBytes_any (m := zm) d1.out (by omega) hcd TB.out) HL0.out).mono ?_
  rintro e w2 ⟨Ao, no, co, rfl, hco, hb, hl⟩
  (try simp only [World.size_alloc, World.size_setCell, World.size_drew] at hb)
  have HB := Lib.hid hb
  clear hb
  have s2 := HB.out.size
  (try simp only [World.size_alloc, World.size_setCell, World.size_drew] at s2)
  replace TB := Lib.hid (TB.out.below HB.out (by omega))
  replace d1 := Lib.hid (d1.out.below HB.out (by omega))
  replace EB := Lib.hid (below_step HB.out EB.out (by omega))
  clear HB
  have o1 := Lib.hid hl
  clear hl
  go_wp2_with fail
  refine (to_lb (SDecodeBytes_any (m := zm) d1.out (by omega)) HL0.out).mono ?_
  rintro e w3 ⟨As, ns, cs, rfl, hcs, hb, hl⟩
  (try simp only [World.size_alloc, World.size_setCell, World.size_drew] at hb)
  have HB := Lib.hid hb
  clear hb
  have s3 := HB.out.size
  (try simp only [World.size_alloc, World.size_setCell, World.size_drew] at s3)
  replace TB := Lib.hid (TB.out.below HB.out (by omega))
  replace d1 := Lib.hid (d1.out.below HB.out (by omega))
  replace o1 := Lib.hid (o1.out.below HB.out (by omega))
  replace EB := Lib.hid (below_step HB.out EB.out (by omega))
  clear HB
  have s1 := Lib.hid hl
  clear hl
  go_wp2_with fail
  refine (equalInts_same o1.out s1.out rfl).mono ?_
  rintro e w4 ⟨rfl, hb⟩
  (try simp only [World.size_alloc, World.size_setCell, World.size_drew] at hb)
  have HB := Lib.hid hb
  clear hb
  have s4 := HB.out.size
  (try simp only [World.size_alloc, World.size_setCell, World.size_drew] at s4)
  replace TB := Lib.hid (TB.out.below HB.out (by omega))
  replace d1 := Lib.hid (d1.out.below HB.out (by omega))
  replace o1 := Lib.hid (o1.out.below HB.out (by omega))
  replace s1 := Lib.hid (s1.out.below HB.out (by omega))
  replace EB := Lib.hid (below_step HB.out EB.out (by omega))
  clear HB
  cases hd : bytesB Dd
  · cases b0
    · go_wp2_with fail
      refine (to_intN (BadAt_any d1.out (by omega) hcd TB.out) (bdOut_no hd)).mono ?_
      rintro e w5 ⟨rfl, hb⟩
      (try simp only [World.size_alloc, World.size_setCell, World.size_drew] at hb)
      have HB := Lib.hid hb
      clear hb
      have s5 := HB.out.size
      (try simp only [World.size_alloc, World.size_setCell, World.size_drew] at s5)
      replace TB := Lib.hid (TB.out.below HB.out (by omega))
      replace d1 := Lib.hid (d1.out.below HB.out (by omega))
      replace o1 := Lib.hid (o1.out.below HB.out (by omega))
      replace s1 := Lib.hid (s1.out.below HB.out (by omega))
      replace EB := Lib.hid (below_step HB.out EB.out (by omega))
      clear HB
      go_wp2_with fail
      refine (equalInts_same o1.out s1.out rfl).mono ?_
      rintro e w6 ⟨rfl, hb⟩
      (try simp only [World.size_alloc, World.size_setCell, World.size_drew] at hb)
      have HB := Lib.hid hb
      clear hb
      have s6 := HB.out.size
      (try simp only [World.size_alloc, World.size_setCell, World.size_drew] at s6)
      replace TB := Lib.hid (TB.out.below HB.out (by omega))
      replace d1 := Lib.hid (d1.out.below HB.out (by omega))
      replace o1 := Lib.hid (o1.out.below HB.out (by omega))
      replace s1 := Lib.hid (s1.out.below HB.out (by omega))
      replace EB := Lib.hid (below_step HB.out EB.out (by omega))
      clear HB
      go_wp2
      go_ret
      exact ⟨rfl, EB.out⟩
    · go_wp2_with fail
      refine (to_intN (BadAt_any d1.out (by omega) hcd TB.out) (bdOut_no hd)).mono ?_
      rintro e w5 ⟨rfl, hb⟩
      (try simp only [World.size_alloc, World.size_setCell, World.size_drew] at hb)
      have HB := Lib.hid hb
      clear hb
      have s5 := HB.out.size
      (try simp only [World.size_alloc, World.size_setCell, World.size_drew] at s5)
      replace TB := Lib.hid (TB.out.below HB.out (by omega))
      replace d1 := Lib.hid (d1.out.below HB.out (by omega))
      replace o1 := Lib.hid (o1.out.below HB.out (by omega))
      replace s1 := Lib.hid (s1.out.below HB.out (by omega))
      replace EB := Lib.hid (below_step HB.out EB.out (by omega))
      clear HB
      go_wp2_with fail
      refine (equalInts_same o1.out s1.out rfl).mono ?_
      rintro e w6 ⟨rfl, hb⟩
      (try simp only [World.size_alloc, World.size_setCell, World.size_drew] at hb)
      have HB := Lib.hid hb
      clear hb
      have s6 := HB.out.size
      (try simp only [World.size_alloc, World.size_setCell, World.size_drew] at s6)
      replace TB := Lib.hid (TB.out.below HB.out (by omega))
      replace d1 := Lib.hid (d1.out.below HB.out (by omega))
      replace o1 := Lib.hid (o1.out.below HB.out (by omega))
      replace s1 := Lib.hid (s1.out.below HB.out (by omega))
      replace EB := Lib.hid (below_step HB.out EB.out (by omega))
      clear HB
      go_wp2
      go_ret
      exact ⟨rfl, EB.out⟩
  · have hbd := bdL_bad Dd
    cases hb : badI Dd with
      | none =>
        rw [hb] at hbd
        have HI := Lib.hid ((bdOut_yes hd).trans hbd)
        clear hbd
        have HF0 := Lib.hid (db_at hd (m := 0) rfl (decP_low (m := 0) (bad_none hb)))
        have HF1 := Lib.hid (db_at hd (m := 1) rfl (decP_low (m := 1) (bad_none hb)))
        have HF2 := Lib.hid (db_at hd (m := 2) rfl (decP_low (m := 2) (bad_none hb)))
        cases b0
        · go_wp2_with fail
          refine (to_intN (BadAt_any d1.out (by omega) hcd TB.out) HI.out).mono ?_
          rintro e w5 ⟨rfl, hb⟩
          (try simp only [World.size_alloc, World.size_setCell, World.size_drew] at hb)
          have HB := Lib.hid hb
          clear hb
          have s5 := HB.out.size
          (try simp only [World.size_alloc, World.size_setCell, World.size_drew] at s5)
          replace TB := Lib.hid (TB.out.below HB.out (by omega))
          replace d1 := Lib.hid (d1.out.below HB.out (by omega))
          replace o1 := Lib.hid (o1.out.below HB.out (by omega))
          replace s1 := Lib.hid (s1.out.below HB.out (by omega))
          replace EB := Lib.hid (below_step HB.out EB.out (by omega))
          clear HB
          go_wp2_with fail
          refine (to_lb (DecodeBytes_any (m := 0) d1.out (by omega) hcd TB.out) HF0.out).mono ?_
          rintro e w6 ⟨Am0, nm0, cm0, rfl, hcm0, hb, hl⟩
          (try simp only [World.size_alloc, World.size_setCell, World.size_drew] at hb)
          have HB := Lib.hid hb
          clear hb
          have s6 := HB.out.size
          (try simp only [World.size_alloc, World.size_setCell, World.size_drew] at s6)
          replace TB := Lib.hid (TB.out.below HB.out (by omega))
          replace d1 := Lib.hid (d1.out.below HB.out (by omega))
          replace o1 := Lib.hid (o1.out.below HB.out (by omega))
          replace s1 := Lib.hid (s1.out.below HB.out (by omega))
          replace EB := Lib.hid (below_step HB.out EB.out (by omega))
          clear HB
          have m01 := Lib.hid hl
          clear hl
          go_wp2_with fail
          refine (to_lb (DecodeBytes_any (m := 1) d1.out (by omega) hcd TB.out) HF1.out).mono ?_
          rintro e w7 ⟨Am1, nm1, cm1, rfl, hcm1, hb, hl⟩
          (try simp only [World.size_alloc, World.size_setCell, World.size_drew] at hb)
          have HB := Lib.hid hb
          clear hb
          have s7 := HB.out.size
          (try simp only [World.size_alloc, World.size_setCell, World.size_drew] at s7)
          replace TB := Lib.hid (TB.out.below HB.out (by omega))
          replace d1 := Lib.hid (d1.out.below HB.out (by omega))
          replace o1 := Lib.hid (o1.out.below HB.out (by omega))
          replace s1 := Lib.hid (s1.out.below HB.out (by omega))
          replace m01 := Lib.hid (m01.out.below HB.out (by omega))
          replace EB := Lib.hid (below_step HB.out EB.out (by omega))
          clear HB
          have m11 := Lib.hid hl
          clear hl
          go_wp2_with fail
          refine (to_lb (DecodeBytes_any (m := 2) d1.out (by omega) hcd TB.out) HF2.out).mono ?_
          rintro e w8 ⟨Am2, nm2, cm2, rfl, hcm2, hb, hl⟩
          (try simp only [World.size_alloc, World.size_setCell, World.size_drew] at hb)
          have HB := Lib.hid hb
          clear hb
          have s8 := HB.out.size
          (try simp only [World.size_alloc, World.size_setCell, World.size_drew] at s8)
          replace TB := Lib.hid (TB.out.below HB.out (by omega))
          replace d1 := Lib.hid (d1.out.below HB.out (by omega))
          replace o1 := Lib.hid (o1.out.below HB.out (by omega))
          replace s1 := Lib.hid (s1.out.below HB.out (by omega))
          replace m01 := Lib.hid (m01.out.below HB.out (by omega))
          replace m11 := Lib.hid (m11.out.below HB.out (by omega))
          replace EB := Lib.hid (below_step HB.out EB.out (by omega))
          clear HB
          have m21 := Lib.hid hl
          clear hl
          go_wp2_with fail
          refine (equalInts_same m01.out m11.out rfl).mono ?_
          rintro e w9 ⟨rfl, hb⟩
          (try simp only [World.size_alloc, World.size_setCell, World.size_drew] at hb)
          have HB := Lib.hid hb
          clear hb
          have s9 := HB.out.size
          (try simp only [World.size_alloc, World.size_setCell, World.size_drew] at s9)
          replace TB := Lib.hid (TB.out.below HB.out (by omega))
          replace d1 := Lib.hid (d1.out.below HB.out (by omega))
          replace o1 := Lib.hid (o1.out.below HB.out (by omega))
          replace s1 := Lib.hid (s1.out.below HB.out (by omega))
          replace m01 := Lib.hid (m01.out.below HB.out (by omega))
          replace m11 := Lib.hid (m11.out.below HB.out (by omega))
          replace m21 := Lib.hid (m21.out.below HB.out (by omega))
          replace EB := Lib.hid (below_step HB.out EB.out (by omega))
          clear HB
          go_wp2_with fail
          refine (equalInts_same m01.out m21.out rfl).mono ?_
          rintro e w10 ⟨rfl, hb⟩
          (try simp only [World.size_alloc, World.size_setCell, World.size_drew] at hb)
          have HB := Lib.hid hb
          clear hb
          have s10 := HB.out.size
          (try simp only [World.size_alloc, World.size_setCell, World.size_drew] at s10)
          replace TB := Lib.hid (TB.out.below HB.out (by omega))
          replace d1 := Lib.hid (d1.out.below HB.out (by omega))
          replace o1 := Lib.hid (o1.out.below HB.out (by omega))
          replace s1 := Lib.hid (s1.out.below HB.out (by omega))
          replace m01 := Lib.hid (m01.out.below HB.out (by omega))
          replace m11 := Lib.hid (m11.out.below HB.out (by omega))
          replace m21 := Lib.hid (m21.out.below HB.out (by omega))
          replace EB := Lib.hid (below_step HB.out EB.out (by omega))
          clear HB
          go_wp2
          go_ret
          exact ⟨rfl, EB.out⟩
        · go_wp2_with fail
          refine (to_intN (BadAt_any d1.out (by omega) hcd TB.out) HI.out).mono ?_
          rintro e w5 ⟨rfl, hb⟩
          (try simp only [World.size_alloc, World.size_setCell, World.size_drew] at hb)
          have HB := Lib.hid hb
          clear hb
          have s5 := HB.out.size
          (try simp only [World.size_alloc, World.size_setCell, World.size_drew] at s5)
          replace TB := Lib.hid (TB.out.below HB.out (by omega))
          replace d1 := Lib.hid (d1.out.below HB.out (by omega))
          replace o1 := Lib.hid (o1.out.below HB.out (by omega))
          replace s1 := Lib.hid (s1.out.below HB.out (by omega))
          replace EB := Lib.hid (below_step HB.out EB.out (by omega))
          clear HB
          go_wp2_with fail
          refine (to_lb (DecodeBytes_any (m := 0) d1.out (by omega) hcd TB.out) HF0.out).mono ?_
          rintro e w6 ⟨Am0, nm0, cm0, rfl, hcm0, hb, hl⟩
          (try simp only [World.size_alloc, World.size_setCell, World.size_drew] at hb)
          have HB := Lib.hid hb
          clear hb
          have s6 := HB.out.size
          (try simp only [World.size_alloc, World.size_setCell, World.size_drew] at s6)
          replace TB := Lib.hid (TB.out.below HB.out (by omega))
          replace d1 := Lib.hid (d1.out.below HB.out (by omega))
          replace o1 := Lib.hid (o1.out.below HB.out (by omega))
          replace s1 := Lib.hid (s1.out.below HB.out (by omega))
          replace EB := Lib.hid (below_step HB.out EB.out (by omega))
          clear HB
          have m01 := Lib.hid hl
          clear hl
          go_wp2_with fail
          refine (to_lb (DecodeBytes_any (m := 1) d1.out (by omega) hcd TB.out) HF1.out).mono ?_
          rintro e w7 ⟨Am1, nm1, cm1, rfl, hcm1, hb, hl⟩
          (try simp only [World.size_alloc, World.size_setCell, World.size_drew] at hb)
          have HB := Lib.hid hb
          clear hb
          have s7 := HB.out.size
          (try simp only [World.size_alloc, World.size_setCell, World.size_drew] at s7)
          replace TB := Lib.hid (TB.out.below HB.out (by omega))
          replace d1 := Lib.hid (d1.out.below HB.out (by omega))
          replace o1 := Lib.hid (o1.out.below HB.out (by omega))
          replace s1 := Lib.hid (s1.out.below HB.out (by omega))
          replace m01 := Lib.hid (m01.out.below HB.out (by omega))
          replace EB := Lib.hid (below_step HB.out EB.out (by omega))
          clear HB
          have m11 := Lib.hid hl
          clear hl
          go_wp2_with fail
          refine (to_lb (DecodeBytes_any (m := 2) d1.out (by omega) hcd TB.out) HF2.out).mono ?_
          rintro e w8 ⟨Am2, nm2, cm2, rfl, hcm2, hb, hl⟩
          (try simp only [World.size_alloc, World.size_setCell, World.size_drew] at hb)
          have HB := Lib.hid hb
          clear hb
          have s8 := HB.out.size
          (try simp only [World.size_alloc, World.size_setCell, World.size_drew] at s8)
          replace TB := Lib.hid (TB.out.below HB.out (by omega))
          replace d1 := Lib.hid (d1.out.below HB.out (by omega))
          replace o1 := Lib.hid (o1.out.below HB.out (by omega))
          replace s1 := Lib.hid (s1.out.below HB.out (by omega))
          replace m01 := Lib.hid (m01.out.below HB.out (by omega))
          replace m11 := Lib.hid (m11.out.below HB.out (by omega))
          replace EB := Lib.hid (below_step HB.out EB.out (by omega))
          clear HB
          have m21 := Lib.hid hl
          clear hl
          go_wp2_with fail
          refine (equalInts_same m01.out m11.out rfl).mono ?_
          rintro e w9 ⟨rfl, hb⟩
          (try simp only [World.size_alloc, World.size_setCell, World.size_drew] at hb)
          have HB := Lib.hid hb
          clear hb
          have s9 := HB.out.size
          (try simp only [World.size_alloc, World.size_setCell, World.size_drew] at s9)
          replace TB := Lib.hid (TB.out.below HB.out (by omega))
          replace d1 := Lib.hid (d1.out.below HB.out (by omega))
          replace o1 := Lib.hid (o1.out.below HB.out (by omega))
          replace s1 := Lib.hid (s1.out.below HB.out (by omega))
          replace m01 := Lib.hid (m01.out.below HB.out (by omega))
          replace m11 := Lib.hid (m11.out.below HB.out (by omega))
          replace m21 := Lib.hid (m21.out.below HB.out (by omega))
          replace EB := Lib.hid (below_step HB.out EB.out (by omega))
          clear HB
          go_wp2_with fail
          refine (equalInts_same m01.out m21.out rfl).mono ?_
          rintro e w10 ⟨rfl, hb⟩
          (try simp only [World.size_alloc, World.size_setCell, World.size_drew] at hb)
          have HB := Lib.hid hb
          clear hb
          have s10 := HB.out.size
          (try simp only [World.size_alloc, World.size_setCell, World.size_drew] at s10)
          replace TB := Lib.hid (TB.out.below HB.out (by omega))
          replace d1 := Lib.hid (d1.out.below HB.out (by omega))
          replace o1 := Lib.hid (o1.out.below HB.out (by omega))
          replace s1 := Lib.hid (s1.out.below HB.out (by omega))
          replace m01 := Lib.hid (m01.out.below HB.out (by omega))
          replace m11 := Lib.hid (m11.out.below HB.out (by omega))
          replace m21 := Lib.hid (m21.out.below HB.out (by omega))
          replace EB := Lib.hid (below_step HB.out EB.out (by omega))
          clear HB
          go_wp2
          go_ret
          exact ⟨rfl, EB.out⟩
      | some t =>
        rw [hb] at hbd
        obtain ⟨ht, L, q, r, e1, hL, hq, e2, q2, r2, e3, hq2⟩ := bad_some hb
        have htn : t < nd := by rw [d1.out.len]; exact ht
        have HI : Hid (bdOut Dd = ((t : Nat) : Int)) := (bdOut_yes hd).trans hbd
        have hi2 : (((t : Nat) : Int) == -2) = false := by simp
        have HF0 := Lib.hid (db_at hd (m := 0) (L := L) (b := false) rfl (by unfold decB; rw [e1]; exact decP_first hL hq))
        have HG := Lib.hid (db_at (bytesB_take hd t) (m := 0) (L := L) (b := true) rfl (by unfold decB; rw [e2]; exact decP_low hL))
        obtain ⟨L1, b1, hL1⟩ : ∃ L1 b1, decB 1 Dd = (L1, b1) := ⟨_, _, rfl⟩
        have HF1 := Lib.hid (db_at hd (m := 1) rfl hL1)
        have HF2 := Lib.hid (db_at hd (m := 2) (L := clL (L ++ q :: r)) (b := true) rfl (by unfold decB; rw [decP_mark, e1]))
        have hlt : L1.length < (clL (L ++ q :: r)).length := by have h1 := drop_less (l := rawP Dd) ⟨q, by rw [e1]; simp, hq⟩; have h2 : decP 1 (rawP Dd) = (L1, b1) := hL1; rw [h2, e1] at h1; rw [clL_len]; exact h1
        have HBG := Lib.hid (mark_begins (q := q) (r := r) hL)
        have HLT := Lib.hid hlt
        clear hbd e1 hL hq e2 e3 hq2 ht hL1 hlt
        have htc : (t : Int) ≤ (cd : Int) := by omega
        cases b0
        · go_wp2_with fail
          refine (to_intN (BadAt_any d1.out (by omega) hcd TB.out) HI.out).mono ?_
          rintro e w5 ⟨rfl, hb⟩
          (try simp only [World.size_alloc, World.size_setCell, World.size_drew] at hb)
          have HB := Lib.hid hb
          clear hb
          have s5 := HB.out.size
          (try simp only [World.size_alloc, World.size_setCell, World.size_drew] at s5)
          replace TB := Lib.hid (TB.out.below HB.out (by omega))
          replace d1 := Lib.hid (d1.out.below HB.out (by omega))
          replace o1 := Lib.hid (o1.out.below HB.out (by omega))
          replace s1 := Lib.hid (s1.out.below HB.out (by omega))
          replace EB := Lib.hid (below_step HB.out EB.out (by omega))
          clear HB
          go_wp2_with fail
          refine (to_lb (DecodeBytes_any (m := 0) d1.out (by omega) hcd TB.out) HF0.out).mono ?_
          rintro e w6 ⟨Am0, nm0, cm0, rfl, hcm0, hb, hl⟩
          (try simp only [World.size_alloc, World.size_setCell, World.size_drew] at hb)
          have HB := Lib.hid hb
          clear hb
          have s6 := HB.out.size
          (try simp only [World.size_alloc, World.size_setCell, World.size_drew] at s6)
          replace TB := Lib.hid (TB.out.below HB.out (by omega))
          replace d1 := Lib.hid (d1.out.below HB.out (by omega))
          replace o1 := Lib.hid (o1.out.below HB.out (by omega))
          replace s1 := Lib.hid (s1.out.below HB.out (by omega))
          replace EB := Lib.hid (below_step HB.out EB.out (by omega))
          clear HB
          have m01 := Lib.hid hl
          clear hl
          go_wp2_with fail
          refine (to_lb (DecodeBytes_any (m := 1) d1.out (by omega) hcd TB.out) HF1.out).mono ?_
          rintro e w7 ⟨Am1, nm1, cm1, rfl, hcm1, hb, hl⟩
          (try simp only [World.size_alloc, World.size_setCell, World.size_drew] at hb)
          have HB := Lib.hid hb
          clear hb
          have s7 := HB.out.size
          (try simp only [World.size_alloc, World.size_setCell, World.size_drew] at s7)
          replace TB := Lib.hid (TB.out.below HB.out (by omega))
          replace d1 := Lib.hid (d1.out.below HB.out (by omega))
          replace o1 := Lib.hid (o1.out.below HB.out (by omega))
          replace s1 := Lib.hid (s1.out.below HB.out (by omega))
          replace m01 := Lib.hid (m01.out.below HB.out (by omega))
          replace EB := Lib.hid (below_step HB.out EB.out (by omega))
          clear HB
          have m11 := Lib.hid hl
          clear hl
          go_wp2_with fail
          refine (to_lb (DecodeBytes_any (m := 2) d1.out (by omega) hcd TB.out) HF2.out).mono ?_
          rintro e w8 ⟨Am2, nm2, cm2, rfl, hcm2, hb, hl⟩
          (try simp only [World.size_alloc, World.size_setCell, World.size_drew] at hb)
          have HB := Lib.hid hb
          clear hb
          have s8 := HB.out.size
          (try simp only [World.size_alloc, World.size_setCell, World.size_drew] at s8)
          replace TB := Lib.hid (TB.out.below HB.out (by omega))
          replace d1 := Lib.hid (d1.out.below HB.out (by omega))
          replace o1 := Lib.hid (o1.out.below HB.out (by omega))
          replace s1 := Lib.hid (s1.out.below HB.out (by omega))
          replace m01 := Lib.hid (m01.out.below HB.out (by omega))
          replace m11 := Lib.hid (m11.out.below HB.out (by omega))
          replace EB := Lib.hid (below_step HB.out EB.out (by omega))
          clear HB
          have m21 := Lib.hid hl
          clear hl
          go_wp2_with fail
          refine (to_intN (BadAt_any d1.out (by omega) hcd TB.out) HI.out).mono ?_
          rintro e w9 ⟨rfl, hb⟩
          (try simp only [World.size_alloc, World.size_setCell, World.size_drew] at hb)
          have HB := Lib.hid hb
          clear hb
          have s9 := HB.out.size
          (try simp only [World.size_alloc, World.size_setCell, World.size_drew] at s9)
          replace TB := Lib.hid (TB.out.below HB.out (by omega))
          replace d1 := Lib.hid (d1.out.below HB.out (by omega))
          replace o1 := Lib.hid (o1.out.below HB.out (by omega))
          replace s1 := Lib.hid (s1.out.below HB.out (by omega))
          replace m01 := Lib.hid (m01.out.below HB.out (by omega))
          replace m11 := Lib.hid (m11.out.below HB.out (by omega))
          replace m21 := Lib.hid (m21.out.below HB.out (by omega))
          replace EB := Lib.hid (below_step HB.out EB.out (by omega))
          clear HB
          go_wp2_with fail
          refine (to_lb (DecodeBytes_any (m := 0) (d1.out.take (m := t) (by omega)) (by omega) (by omega) TB.out) HG.out).mono ?_
          rintro e w10 ⟨Ag, ng, cg, rfl, hcg, hb, hl⟩
          (try simp only [World.size_alloc, World.size_setCell, World.size_drew] at hb)
          have HB := Lib.hid hb
          clear hb
          have s10 := HB.out.size
          (try simp only [World.size_alloc, World.size_setCell, World.size_drew] at s10)
          replace TB := Lib.hid (TB.out.below HB.out (by omega))
          replace d1 := Lib.hid (d1.out.below HB.out (by omega))
          replace o1 := Lib.hid (o1.out.below HB.out (by omega))
          replace s1 := Lib.hid (s1.out.below HB.out (by omega))
          replace m01 := Lib.hid (m01.out.below HB.out (by omega))
          replace m11 := Lib.hid (m11.out.below HB.out (by omega))
          replace m21 := Lib.hid (m21.out.below HB.out (by omega))
          replace EB := Lib.hid (below_step HB.out EB.out (by omega))
          clear HB
          have g1 := Lib.hid hl
          clear hl
          go_wp2_with fail
          refine (equalInts_same g1.out m01.out rfl).mono ?_
          rintro e w11 ⟨rfl, hb⟩
          (try simp only [World.size_alloc, World.size_setCell, World.size_drew] at hb)
          have HB := Lib.hid hb
          clear hb
          have s11 := HB.out.size
          (try simp only [World.size_alloc, World.size_setCell, World.size_drew] at s11)
          replace TB := Lib.hid (TB.out.below HB.out (by omega))
          replace d1 := Lib.hid (d1.out.below HB.out (by omega))
          replace o1 := Lib.hid (o1.out.below HB.out (by omega))
          replace s1 := Lib.hid (s1.out.below HB.out (by omega))
          replace m01 := Lib.hid (m01.out.below HB.out (by omega))
          replace m11 := Lib.hid (m11.out.below HB.out (by omega))
          replace m21 := Lib.hid (m21.out.below HB.out (by omega))
          replace g1 := Lib.hid (g1.out.below HB.out (by omega))
          replace EB := Lib.hid (below_step HB.out EB.out (by omega))
          clear HB
          have hlm : (nm1 : Int) < (nm2 : Int) := by have h1 := m11.out.len; have h2 := m21.out.len; have h3 := HLT.out; omega
          go_wp2_with fail
          refine (begins_same m21.out m01.out hcm2 HBG.out).mono ?_
          rintro e w12 ⟨rfl, hb⟩
          (try simp only [World.size_alloc, World.size_setCell, World.size_drew] at hb)
          have HB := Lib.hid hb
          clear hb
          have s12 := HB.out.size
          (try simp only [World.size_alloc, World.size_setCell, World.size_drew] at s12)
          replace TB := Lib.hid (TB.out.below HB.out (by omega))
          replace d1 := Lib.hid (d1.out.below HB.out (by omega))
          replace o1 := Lib.hid (o1.out.below HB.out (by omega))
          replace s1 := Lib.hid (s1.out.below HB.out (by omega))
          replace m01 := Lib.hid (m01.out.below HB.out (by omega))
          replace m11 := Lib.hid (m11.out.below HB.out (by omega))
          replace m21 := Lib.hid (m21.out.below HB.out (by omega))
          replace g1 := Lib.hid (g1.out.below HB.out (by omega))
          replace EB := Lib.hid (below_step HB.out EB.out (by omega))
          clear HB
          go_wp2
          go_ret
          exact ⟨rfl, EB.out⟩
        · go_wp2_with fail
          refine (to_intN (BadAt_any d1.out (by omega) hcd TB.out) HI.out).mono ?_
          rintro e w5 ⟨rfl, hb⟩
          (try simp only [World.size_alloc, World.size_setCell, World.size_drew] at hb)
          have HB := Lib.hid hb
          clear hb
          have s5 := HB.out.size
          (try simp only [World.size_alloc, World.size_setCell, World.size_drew] at s5)
          replace TB := Lib.hid (TB.out.below HB.out (by omega))
          replace d1 := Lib.hid (d1.out.below HB.out (by omega))
          replace o1 := Lib.hid (o1.out.below HB.out (by omega))
          replace s1 := Lib.hid (s1.out.below HB.out (by omega))
          replace EB := Lib.hid (below_step HB.out EB.out (by omega))
          clear HB
          go_wp2_with fail
          refine (to_lb (DecodeBytes_any (m := 0) d1.out (by omega) hcd TB.out) HF0.out).mono ?_
          rintro e w6 ⟨Am0, nm0, cm0, rfl, hcm0, hb, hl⟩
          (try simp only [World.size_alloc, World.size_setCell, World.size_drew] at hb)
          have HB := Lib.hid hb
          clear hb
          have s6 := HB.out.size
          (try simp only [World.size_alloc, World.size_setCell, World.size_drew] at s6)
          replace TB := Lib.hid (TB.out.below HB.out (by omega))
          replace d1 := Lib.hid (d1.out.below HB.out (by omega))
          replace o1 := Lib.hid (o1.out.below HB.out (by omega))
          replace s1 := Lib.hid (s1.out.below HB.out (by omega))
          replace EB := Lib.hid (below_step HB.out EB.out (by omega))
          clear HB
          have m01 := Lib.hid hl
          clear hl
          go_wp2_with fail
          refine (to_lb (DecodeBytes_any (m := 1) d1.out (by omega) hcd TB.out) HF1.out).mono ?_
          rintro e w7 ⟨Am1, nm1, cm1, rfl, hcm1, hb, hl⟩
          (try simp only [World.size_alloc, World.size_setCell, World.size_drew] at hb)
          have HB := Lib.hid hb
          clear hb
          have s7 := HB.out.size
          (try simp only [World.size_alloc, World.size_setCell, World.size_drew] at s7)
          replace TB := Lib.hid (TB.out.below HB.out (by omega))
          replace d1 := Lib.hid (d1.out.below HB.out (by omega))
          replace o1 := Lib.hid (o1.out.below HB.out (by omega))
          replace s1 := Lib.hid (s1.out.below HB.out (by omega))
          replace m01 := Lib.hid (m01.out.below HB.out (by omega))
          replace EB := Lib.hid (below_step HB.out EB.out (by omega))
          clear HB
          have m11 := Lib.hid hl
          clear hl
          go_wp2_with fail
          refine (to_lb (DecodeBytes_any (m := 2) d1.out (by omega) hcd TB.out) HF2.out).mono ?_
          rintro e w8 ⟨Am2, nm2, cm2, rfl, hcm2, hb, hl⟩
          (try simp only [World.size_alloc, World.size_setCell, World.size_drew] at hb)
          have HB := Lib.hid hb
          clear hb
          have s8 := HB.out.size
          (try simp only [World.size_alloc, World.size_setCell, World.size_drew] at s8)
          replace TB := Lib.hid (TB.out.below HB.out (by omega))
          replace d1 := Lib.hid (d1.out.below HB.out (by omega))
          replace o1 := Lib.hid (o1.out.below HB.out (by omega))
          replace s1 := Lib.hid (s1.out.below HB.out (by omega))
          replace m01 := Lib.hid (m01.out.below HB.out (by omega))
          replace m11 := Lib.hid (m11.out.below HB.out (by omega))
          replace EB := Lib.hid (below_step HB.out EB.out (by omega))
          clear HB
          have m21 := Lib.hid hl
          clear hl
          go_wp2_with fail
          refine (to_intN (BadAt_any d1.out (by omega) hcd TB.out) HI.out).mono ?_
          rintro e w9 ⟨rfl, hb⟩
          (try simp only [World.size_alloc, World.size_setCell, World.size_drew] at hb)
          have HB := Lib.hid hb
          clear hb
          have s9 := HB.out.size
          (try simp only [World.size_alloc, World.size_setCell, World.size_drew] at s9)
          replace TB := Lib.hid (TB.out.below HB.out (by omega))
          replace d1 := Lib.hid (d1.out.below HB.out (by omega))
          replace o1 := Lib.hid (o1.out.below HB.out (by omega))
          replace s1 := Lib.hid (s1.out.below HB.out (by omega))
          replace m01 := Lib.hid (m01.out.below HB.out (by omega))
          replace m11 := Lib.hid (m11.out.below HB.out (by omega))
          replace m21 := Lib.hid (m21.out.below HB.out (by omega))
          replace EB := Lib.hid (below_step HB.out EB.out (by omega))
          clear HB
          go_wp2_with fail
          refine (to_lb (DecodeBytes_any (m := 0) (d1.out.take (m := t) (by omega)) (by omega) (by omega) TB.out) HG.out).mono ?_
          rintro e w10 ⟨Ag, ng, cg, rfl, hcg, hb, hl⟩
          (try simp only [World.size_alloc, World.size_setCell, World.size_drew] at hb)
          have HB := Lib.hid hb
          clear hb
          have s10 := HB.out.size
          (try simp only [World.size_alloc, World.size_setCell, World.size_drew] at s10)
          replace TB := Lib.hid (TB.out.below HB.out (by omega))
          replace d1 := Lib.hid (d1.out.below HB.out (by omega))
          replace o1 := Lib.hid (o1.out.below HB.out (by omega))
          replace s1 := Lib.hid (s1.out.below HB.out (by omega))
          replace m01 := Lib.hid (m01.out.below HB.out (by omega))
          replace m11 := Lib.hid (m11.out.below HB.out (by omega))
          replace m21 := Lib.hid (m21.out.below HB.out (by omega))
          replace EB := Lib.hid (below_step HB.out EB.out (by omega))
          clear HB
          have g1 := Lib.hid hl
          clear hl
          go_wp2_with fail
          refine (equalInts_same g1.out m01.out rfl).mono ?_
          rintro e w11 ⟨rfl, hb⟩
          (try simp only [World.size_alloc, World.size_setCell, World.size_drew] at hb)
          have HB := Lib.hid hb
          clear hb
          have s11 := HB.out.size
          (try simp only [World.size_alloc, World.size_setCell, World.size_drew] at s11)
          replace TB := Lib.hid (TB.out.below HB.out (by omega))
          replace d1 := Lib.hid (d1.out.below HB.out (by omega))
          replace o1 := Lib.hid (o1.out.below HB.out (by omega))
          replace s1 := Lib.hid (s1.out.below HB.out (by omega))
          replace m01 := Lib.hid (m01.out.below HB.out (by omega))
          replace m11 := Lib.hid (m11.out.below HB.out (by omega))
          replace m21 := Lib.hid (m21.out.below HB.out (by omega))
          replace g1 := Lib.hid (g1.out.below HB.out (by omega))
          replace EB := Lib.hid (below_step HB.out EB.out (by omega))
          clear HB
          have hlm : (nm1 : Int) < (nm2 : Int) := by have h1 := m11.out.len; have h2 := m21.out.len; have h3 := HLT.out; omega
          go_wp2_with fail
          refine (begins_same m21.out m01.out hcm2 HBG.out).mono ?_
          rintro e w12 ⟨rfl, hb⟩
          (try simp only [World.size_alloc, World.size_setCell, World.size_drew] at hb)
          have HB := Lib.hid hb
          clear hb
          have s12 := HB.out.size
          (try simp only [World.size_alloc, World.size_setCell, World.size_drew] at s12)
          replace TB := Lib.hid (TB.out.below HB.out (by omega))
          replace d1 := Lib.hid (d1.out.below HB.out (by omega))
          replace o1 := Lib.hid (o1.out.below HB.out (by omega))
          replace s1 := Lib.hid (s1.out.below HB.out (by omega))
          replace m01 := Lib.hid (m01.out.below HB.out (by omega))
          replace m11 := Lib.hid (m11.out.below HB.out (by omega))
          replace m21 := Lib.hid (m21.out.below HB.out (by omega))
          replace g1 := Lib.hid (g1.out.below HB.out (by omega))
          replace EB := Lib.hid (below_step HB.out EB.out (by omega))
          clear HB
          go_wp2
          go_ret
          exact ⟨rfl, EB.out⟩
theorem contract (H : Type) (enc : TypeId × Value → H) (W : World) (base : Nat) (args : Array Value) (ds gs : List (DataW H)) (before : List MemPlace)
    (hval : ∀ (j : Nat) t v, Tryd.f8.params[j]? = some t → args[j]? = some v → Value.okWide Tryd.prog W .any base t v)
    (hW : DataW.Whole enc Tryd.prog Tryd.f8.params.toList Rows.fnDecodeBytesModesSpec.vars false W args.toList ds gs before) (hL : laidMetH Tryd.prog laidT W) :
    Calls Tryd.prog 8 args W fun e W' => ∃ v, e = .returned v ∧ Rows.fnDecodeBytesModesSpec.post enc Tryd.prog Tryd.f8 false true false false W args v W' := by
  have hW' := hW
  have hlt : ∀ p ∈ before, p.block < W.heap.size := fun p hp => hW.lt p hp
  obtain ⟨p, q, hA0, hV0, rfl, hfz, hnd⟩ := hW
  have hA : DataW.TrodAll enc Tryd.prog W 0 (fun _ => true) true Tryd.f8.params.toList args.toList ds p := hA0
  have hV : DataW.TrodVars enc Tryd.prog W (fun _ => true) ["loop.example/streamlayers/impl.borders"] gs q := hV0
  rw [Tryd.params8] at hA hval
  obtain ⟨v0, vs0, d0, ds0, p0, q0, hargs, rfl, rfl, h0, r0⟩ := trodAll_cons hA
  obtain ⟨rfl, rfl, rfl⟩ := trodAll_nil r0
  obtain rfl : args = #[v0] := by cases args; simp_all
  obtain ⟨hv, hT⟩ := tab_gives hL
  have lt := hT.lt
  have vr : ∀ {X : World}, Below W.heap.size W X → ∀ sp : Nat → Bool, DataW.TrodVars enc Tryd.prog X sp ["loop.example/streamlayers/impl.borders"] [tabD] (MemPlace.row ⟨0, 0, none⟩ 10) := fun hb sp => tab_read enc (var?_below hb (by kernel_rfl) lt hv) sp
  obtain ⟨rfl, rfl⟩ := hV.unique (vr (Below.refl _ _) _)
  obtain ⟨A, n, c, rfl, hnc, hby, hmx⟩ := arg_bytes (hval 0 _ v0 rfl rfl) h0 (fun p hp => hlt p (by simp [hp]))
  refine (walk A n c W hby hnc hmx hT).mono fun e W' hh => ?_
  obtain ⟨rfl, hb⟩ := hh
  exact ⟨_, rfl, law_postT laidOut (tys_of (by rw [Tryd.params8]; kernel_rfl)) hW' (fun sp => vr hb sp) rfl rfl Tryd.underlying4 hb⟩

set_option maxRecDepth 100000 in
theorem lifted (os : Os) (started : os.Started) (H : Type) (enc : TypeId × Value → H) :
    ReturnsInHanded {} Tryd.checked os 8 .any (fun w args => (Rows.fnDecodeBytesModesSpec.pre enc Tryd.prog Tryd.f8 [] false w args ∧ laidMetH Tryd.prog laidT w) ∧ sizedMet enc Tryd.prog Tryd.f8 (OpenSpec.ofChange Rows.fnDecodeBytesModesSpec) false w args) (Rows.fnDecodeBytesModesSpec.post enc Tryd.prog Tryd.f8 false true false false) := by
  refine returnsInHanded_of_change_and (C := Tryd.checked) (X := fun w _ => laidMetH Tryd.prog laidT w) (fun _ _ _ hh h => h.of_heap hh) own started (by kernel_rfl) Tryd.func8
    (ChangeSpec.witness_shaped (enc := enc) (C := Tryd.checked) (os := os) (X := fun w _ => laidMetH Tryd.prog laidT w) false (World.doorLaid Tryd.prog 19 os) #[.slice none 0 0] 8 rfl (World.shaped_of_RefB (by kernel_rfl) (by kernel_rfl)) (by kernel_rfl) (by kernel_rfl) (by kernel_rfl) (door_metT os _)) ?_
  intro W base args ds gs before hval hW _ _ hL _
  exact contract H enc W base args ds gs before hval hW hL

theorem row : Rows.FnDecodeBytesModesSaid :=
  OpenClaim.holds_of_wide 8 Tryd.f8 rfl rfl rfl rfl rfl rfl rfl ⟨rfl, rfl, rfl, rfl, rfl⟩ rfl rfl rfl rfl rfl (by kernel_rfl) Tryd.func8 (by kernel_rfl)
    (of_decide_eq_true (by kernel_rfl)) (by unfold Func.isWrapper; first | (rw [if_pos (by decide +kernel)]; kernel_rfl) | (rw [if_neg (by decide +kernel)]; exact ⟨rfl, rfl⟩))
    (fun os started H enc _ => lifted os started H enc)

theorem holds : Rows.FnDecodeBytesModesCardSaid :=
  Claim7.holds_tied_plain_at .later [] [.data] true _ false
    row (fun _ h => by cases h) (by kernel_rfl) (fun _ h => by cases h) fnDecodeBytesModes_row_tie rfl ⟨rfl, rfl⟩ (by kernel_rfl) rfl
    (fun f fn hf hfn => by
      obtain rfl : f = 8 := Option.some.inj ((show Tryd.prog.funcNamed "loop.example/streamlayers/laws.FnDecodeBytesModes" = some 8 by kernel_rfl).symm.trans hf) |>.symm
      obtain rfl : fn = Tryd.f8 := (Option.some.inj (Tryd.func8.symm.trans hfn)).symm
      exact ⟨by kernel_rfl, fun j t ht => by
        have hm : t ∈ Tryd.f8.params.toList := Array.mem_toList_iff.2 (Array.mem_of_getElem? ht)
        have hall : (Tryd.f8.params.toList.all fun t => !(Tryd.prog.wantsStandIn t)) = true := by kernel_rfl
        have h9 := List.all_eq_true.1 hall t hm
        show Tryd.prog.wantsStandIn t = false
        simpa using h9⟩)
    (by kernel_rfl)
end LawDecodeBytesModes
end Go.Proofs.YtkgjcoakeliocaaDoor
