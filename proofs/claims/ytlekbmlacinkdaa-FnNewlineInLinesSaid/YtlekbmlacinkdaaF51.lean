/- The law of promise 51: no 13 is told, none waits at the end, and with the end as many 10 are told as there are line ends. No conditions. -/
import Derived.Test.YtlekbmlacinkdaaQ2
set_option maxRecDepth 10000
namespace Go.Proofs.Ytlekbmlacinkdaa
open Go.ChangeShapes Go.WideShapes Go.ChangeAt Go.RowKit
set_option linter.unusedSimpArgs false
set_option linter.unusedVariables false
namespace LawNewlineInLines
set_option maxHeartbeats 8000000 in
theorem walk (A : Option Addr) (n c : Nat) (w : World) (h : BytesIn w w.heap.size A n) (hnc : n ≤ c) (hm : n ≤ 9223372036854775807) :
    Calls Try.prog 4 #[.slice A n c] w (BoolB true w) := by
  have HBY := Lib.hid h
  clear h
  have EB := Lib.hid (Below.refl w.heap.size w)
  by_cases hbig : (1048576 : Int) < (n : Int)
  · go_enter Try.func4, Try.ntmps4
    go_wp2
    go_ret
    exact ⟨rfl, Below.refl _ _⟩
  go_enter Try.func4, Try.ntmps4
  go_wp2_with fail
  refine (DrawNewlineIn_any HBY.out (by omega) hnc).mono ?_
  rintro e w1 ⟨sb, ss, Ad, nd, cd, Dd, fd, rfl, hss, hcd, hnd, hb, hl⟩
  (try simp only [World.size_alloc, World.size_setCell, World.size_drew] at hb)
  have HB := Lib.hid hb
  clear hb
  have s1 := HB.out.size
  (try simp only [World.size_alloc, World.size_setCell, World.size_drew] at s1)
  replace EB := Lib.hid (below_step HB.out EB.out (by omega))
  clear HB
  have d1 := Lib.hid hl
  clear hl HBY
  go_wp2_with fail
  replace d1 := Lib.hid (d1.out.alloc (by omega) (.cells #[.bool (sb), .int .i64 (ss)] 24))
  replace EB := Lib.hid (EB.out.alloc (by omega) (.cells #[.bool (sb), .int .i64 (ss)] 24))
  have Bs := Lib.hid (Box.new w1 24 [.bool (sb), .int .i64 (ss)])
  have s2 : w1.heap.size + 1 ≤ (w1.alloc (.cells #[.bool (sb), .int .i64 (ss)] 24)).heap.size := by simp
  generalize w1.alloc (.cells #[.bool (sb), .int .i64 (ss)] 24) = w2 at *
  have hso : okInt ss := by unfold okInt; omega
  cases hv : niOk ss Dd
  · have HNO := Lib.hid (ni_no (held := sb) (f := fd) hv)
    have vsl := Bs.out.lt
    have vs0 := (Bs.out.2 0 _ rfl).1
    have vs1 := (Bs.out.2 1 _ rfl).1
    refine (to_nl (NewlineIn_any d1.out (by omega) hcd hso) HNO.out.1 HNO.out.2.1 HNO.out.2.2).mono ?_
    clear vsl vs0 vs1
    rintro e w3 ⟨Al, nl, cl, rfl, hcl, hb, hl⟩
    (try simp only [World.size_alloc, World.size_setCell, World.size_drew] at hb)
    have HB := Lib.hid hb
    clear hb
    have s3 := HB.out.size
    (try simp only [World.size_alloc, World.size_setCell, World.size_drew] at s3)
    replace d1 := Lib.hid (d1.out.below HB.out (by omega))
    replace Bs := Lib.hid (Bs.out.below HB.out (by omega))
    replace EB := Lib.hid (below_step HB.out EB.out (by omega))
    clear HB
    have l1 := Lib.hid hl
    clear hl
    have vsl := Bs.out.lt
    have vs0 := (Bs.out.2 0 _ rfl).1
    have vs1 := (Bs.out.2 1 _ rfl).1
    go_wp2_with fail
    clear vsl vs0 vs1
    replace d1 := Lib.hid (d1.out.alloc (by omega) (.cells #[.bool (false), .int .i64 (0)] 24))
    replace Bs := Lib.hid (Bs.out.alloc (.cells #[.bool (false), .int .i64 (0)] 24))
    replace l1 := Lib.hid (l1.out.alloc (by omega) (.cells #[.bool (false), .int .i64 (0)] 24))
    replace EB := Lib.hid (EB.out.alloc (by omega) (.cells #[.bool (false), .int .i64 (0)] 24))
    have Bx := Lib.hid (Box.new w3 24 [.bool (false), .int .i64 (0)])
    have s4 : w3.heap.size + 1 ≤ (w3.alloc (.cells #[.bool (false), .int .i64 (0)] 24)).heap.size := by simp
    generalize w3.alloc (.cells #[.bool (false), .int .i64 (0)] 24) = w4 at *
    refine (to_nl (SNewlineIn_any d1.out (by omega) hcd hso) HNO.out.1 HNO.out.2.1 HNO.out.2.2).mono ?_
    rintro e w5 ⟨Am, nm, cm, rfl, hcm, hb, hl⟩
    (try simp only [World.size_alloc, World.size_setCell, World.size_drew] at hb)
    have HB := Lib.hid hb
    clear hb
    have s5 := HB.out.size
    (try simp only [World.size_alloc, World.size_setCell, World.size_drew] at s5)
    replace d1 := Lib.hid (d1.out.below HB.out (by omega))
    replace Bs := Lib.hid (Bs.out.below HB.out (by omega))
    replace l1 := Lib.hid (l1.out.below HB.out (by omega))
    replace Bx := Lib.hid (Bx.out.below HB.out (by omega))
    replace EB := Lib.hid (below_step HB.out EB.out (by omega))
    clear HB
    have m1 := Lib.hid hl
    clear hl
    have vxl := Bx.out.lt
    have vx0 := (Bx.out.2 0 _ rfl).1
    have vx1 := (Bx.out.2 1 _ rfl).1
    go_wp2_with fail
    clear vxl vx0 vx1
    replace d1 := Lib.hid (d1.out.alloc (by omega) (.cells #[.bool (false), .int .i64 (0)] 24))
    replace Bs := Lib.hid (Bs.out.alloc (.cells #[.bool (false), .int .i64 (0)] 24))
    replace l1 := Lib.hid (l1.out.alloc (by omega) (.cells #[.bool (false), .int .i64 (0)] 24))
    replace Bx := Lib.hid (Bx.out.alloc (.cells #[.bool (false), .int .i64 (0)] 24))
    replace m1 := Lib.hid (m1.out.alloc (by omega) (.cells #[.bool (false), .int .i64 (0)] 24))
    replace EB := Lib.hid (EB.out.alloc (by omega) (.cells #[.bool (false), .int .i64 (0)] 24))
    have By := Lib.hid (Box.new w5 24 [.bool (false), .int .i64 (0)])
    have s6 : w5.heap.size + 1 ≤ (w5.alloc (.cells #[.bool (false), .int .i64 (0)] 24)).heap.size := by simp
    generalize w5.alloc (.cells #[.bool (false), .int .i64 (0)] 24) = w6 at *
    refine (equalInts_same l1.out m1.out rfl).mono ?_
    rintro e w7 ⟨rfl, hb⟩
    (try simp only [World.size_alloc, World.size_setCell, World.size_drew] at hb)
    have HB := Lib.hid hb
    clear hb
    have s7 := HB.out.size
    (try simp only [World.size_alloc, World.size_setCell, World.size_drew] at s7)
    replace d1 := Lib.hid (d1.out.below HB.out (by omega))
    replace Bs := Lib.hid (Bs.out.below HB.out (by omega))
    replace l1 := Lib.hid (l1.out.below HB.out (by omega))
    replace Bx := Lib.hid (Bx.out.below HB.out (by omega))
    replace m1 := Lib.hid (m1.out.below HB.out (by omega))
    replace By := Lib.hid (By.out.below HB.out (by omega))
    replace EB := Lib.hid (below_step HB.out EB.out (by omega))
    clear HB
    have vsl := Bs.out.lt
    have vs0 := (Bs.out.2 0 _ rfl).1
    have vs1 := (Bs.out.2 1 _ rfl).1
    go_wp2_with fail
    cases hs7 : inB ss 0 7
    · refine (to_intN NlNumber_any (nn_no hs7)).mono ?_
      clear vsl vs0 vs1
      rintro e w8 ⟨rfl, hb⟩
      (try simp only [World.size_alloc, World.size_setCell, World.size_drew] at hb)
      have HB := Lib.hid hb
      clear hb
      have s8 := HB.out.size
      (try simp only [World.size_alloc, World.size_setCell, World.size_drew] at s8)
      replace d1 := Lib.hid (d1.out.below HB.out (by omega))
      replace Bs := Lib.hid (Bs.out.below HB.out (by omega))
      replace l1 := Lib.hid (l1.out.below HB.out (by omega))
      replace Bx := Lib.hid (Bx.out.below HB.out (by omega))
      replace m1 := Lib.hid (m1.out.below HB.out (by omega))
      replace By := Lib.hid (By.out.below HB.out (by omega))
      replace EB := Lib.hid (below_step HB.out EB.out (by omega))
      clear HB
      have vxl := Bx.out.lt
      have vx0 := (Bx.out.2 0 _ rfl).1
      have vx1 := (Bx.out.2 1 _ rfl).1
      have vyl := By.out.lt
      have vy0 := (By.out.2 0 _ rfl).1
      have vy1 := (By.out.2 1 _ rfl).1
      go_wp2_with fail
      refine (equalInts_same l1.out m1.out rfl).mono ?_
      clear vxl vx0 vx1 vyl vy0 vy1
      rintro e w9 ⟨rfl, hb⟩
      (try simp only [World.size_alloc, World.size_setCell, World.size_drew] at hb)
      have HB := Lib.hid hb
      clear hb
      have s9 := HB.out.size
      (try simp only [World.size_alloc, World.size_setCell, World.size_drew] at s9)
      replace d1 := Lib.hid (d1.out.below HB.out (by omega))
      replace Bs := Lib.hid (Bs.out.below HB.out (by omega))
      replace l1 := Lib.hid (l1.out.below HB.out (by omega))
      replace Bx := Lib.hid (Bx.out.below HB.out (by omega))
      replace m1 := Lib.hid (m1.out.below HB.out (by omega))
      replace By := Lib.hid (By.out.below HB.out (by omega))
      replace EB := Lib.hid (below_step HB.out EB.out (by omega))
      clear HB
      go_wp2
      go_ret
      exact ⟨rfl, EB.out⟩
    · have hbf : bytesB Dd = false := by simpa [niOk, hs7] using hv
      obtain ⟨_, _, _, q4, q5⟩ := ns_nn (b := sb) hs7
      refine (NlNumber_any).mono ?_
      clear vsl vs0 vs1
      rintro e w8 ⟨rfl, hb⟩
      (try simp only [World.size_alloc, World.size_setCell, World.size_drew] at hb)
      have HB := Lib.hid hb
      clear hb
      have s8 := HB.out.size
      (try simp only [World.size_alloc, World.size_setCell, World.size_drew] at s8)
      replace d1 := Lib.hid (d1.out.below HB.out (by omega))
      replace Bs := Lib.hid (Bs.out.below HB.out (by omega))
      replace l1 := Lib.hid (l1.out.below HB.out (by omega))
      replace Bx := Lib.hid (Bx.out.below HB.out (by omega))
      replace m1 := Lib.hid (m1.out.below HB.out (by omega))
      replace By := Lib.hid (By.out.below HB.out (by omega))
      replace EB := Lib.hid (below_step HB.out EB.out (by omega))
      clear HB
      go_wp2_with fail
      refine (to_intN (CountEnds_any d1.out (by omega) hcd) (ce_no hbf)).mono ?_
      rintro e w9 ⟨rfl, hb⟩
      (try simp only [World.size_alloc, World.size_setCell, World.size_drew] at hb)
      have HB := Lib.hid hb
      clear hb
      have s9 := HB.out.size
      (try simp only [World.size_alloc, World.size_setCell, World.size_drew] at s9)
      replace d1 := Lib.hid (d1.out.below HB.out (by omega))
      replace Bs := Lib.hid (Bs.out.below HB.out (by omega))
      replace l1 := Lib.hid (l1.out.below HB.out (by omega))
      replace Bx := Lib.hid (Bx.out.below HB.out (by omega))
      replace m1 := Lib.hid (m1.out.below HB.out (by omega))
      replace By := Lib.hid (By.out.below HB.out (by omega))
      replace EB := Lib.hid (below_step HB.out EB.out (by omega))
      clear HB
      have vxl := Bx.out.lt
      have vx0 := (Bx.out.2 0 _ rfl).1
      have vx1 := (Bx.out.2 1 _ rfl).1
      have vyl := By.out.lt
      have vy0 := (By.out.2 0 _ rfl).1
      have vy1 := (By.out.2 1 _ rfl).1
      go_wp2_with fail
      refine (equalInts_same l1.out m1.out rfl).mono ?_
      clear vxl vx0 vx1 vyl vy0 vy1
      rintro e w10 ⟨rfl, hb⟩
      (try simp only [World.size_alloc, World.size_setCell, World.size_drew] at hb)
      have HB := Lib.hid hb
      clear hb
      have s10 := HB.out.size
      (try simp only [World.size_alloc, World.size_setCell, World.size_drew] at s10)
      replace d1 := Lib.hid (d1.out.below HB.out (by omega))
      replace Bs := Lib.hid (Bs.out.below HB.out (by omega))
      replace l1 := Lib.hid (l1.out.below HB.out (by omega))
      replace Bx := Lib.hid (Bx.out.below HB.out (by omega))
      replace m1 := Lib.hid (m1.out.below HB.out (by omega))
      replace By := Lib.hid (By.out.below HB.out (by omega))
      replace EB := Lib.hid (below_step HB.out EB.out (by omega))
      clear HB
      go_wp2
      go_ret
      exact ⟨rfl, EB.out⟩
  · have hv' := hv
    unfold niOk at hv'
    rw [Bool.and_eq_true] at hv'
    obtain ⟨hs7, hbD⟩ := hv'
    obtain ⟨_, _, _, q4, q5⟩ := ns_nn (b := sb) hs7
    have HCE := Lib.hid (ce_yes hbD)
    obtain ⟨ct, hct⟩ : ∃ ct, c10 Dd = ct := ⟨_, rfl⟩
    rw [hct] at HCE
    have HCT := Lib.hid hct
    have HV := Lib.hid hv
    have HS7 := Lib.hid hs7
    have HBD := Lib.hid hbD
    have hcl : c10 Dd ≤ Dd.length := Nat.le_trans List.count_le_length (nlM_free_len true Dd)
    have hcd0 := d1.out.len
    have hcn : ct ≤ nd := by omega
    have HCD := Lib.hid hcd0
    clear hct hv hs7 hbD hcl hcd0
    have vsl := Bs.out.lt
    have vs0 := (Bs.out.2 0 _ rfl).1
    have vs1 := (Bs.out.2 1 _ rfl).1
    refine (to_nl (NewlineIn_any d1.out (by omega) hcd hso) rfl rfl rfl).mono ?_
    clear vsl vs0 vs1
    rintro e w3 ⟨Al, nl, cl, rfl, hcl, hb, hl⟩
    (try simp only [World.size_alloc, World.size_setCell, World.size_drew] at hb)
    have HB := Lib.hid hb
    clear hb
    have s3 := HB.out.size
    (try simp only [World.size_alloc, World.size_setCell, World.size_drew] at s3)
    replace d1 := Lib.hid (d1.out.below HB.out (by omega))
    replace Bs := Lib.hid (Bs.out.below HB.out (by omega))
    replace EB := Lib.hid (below_step HB.out EB.out (by omega))
    clear HB
    have l1 := Lib.hid hl
    clear hl
    have vsl := Bs.out.lt
    have vs0 := (Bs.out.2 0 _ rfl).1
    have vs1 := (Bs.out.2 1 _ rfl).1
    go_wp2_with fail
    clear vsl vs0 vs1
    replace d1 := Lib.hid (d1.out.alloc (by omega) (.cells #[.bool (niH sb fd ss Dd), .int .i64 (niS sb fd ss Dd)] 24))
    replace Bs := Lib.hid (Bs.out.alloc (.cells #[.bool (niH sb fd ss Dd), .int .i64 (niS sb fd ss Dd)] 24))
    replace l1 := Lib.hid (l1.out.alloc (by omega) (.cells #[.bool (niH sb fd ss Dd), .int .i64 (niS sb fd ss Dd)] 24))
    replace EB := Lib.hid (EB.out.alloc (by omega) (.cells #[.bool (niH sb fd ss Dd), .int .i64 (niS sb fd ss Dd)] 24))
    have Bx := Lib.hid (Box.new w3 24 [.bool (niH sb fd ss Dd), .int .i64 (niS sb fd ss Dd)])
    have s4 : w3.heap.size + 1 ≤ (w3.alloc (.cells #[.bool (niH sb fd ss Dd), .int .i64 (niS sb fd ss Dd)] 24)).heap.size := by simp
    generalize w3.alloc (.cells #[.bool (niH sb fd ss Dd), .int .i64 (niS sb fd ss Dd)] 24) = w4 at *
    refine (to_nl (SNewlineIn_any d1.out (by omega) hcd hso) rfl rfl rfl).mono ?_
    rintro e w5 ⟨Am, nm, cm, rfl, hcm, hb, hl⟩
    (try simp only [World.size_alloc, World.size_setCell, World.size_drew] at hb)
    have HB := Lib.hid hb
    clear hb
    have s5 := HB.out.size
    (try simp only [World.size_alloc, World.size_setCell, World.size_drew] at s5)
    replace d1 := Lib.hid (d1.out.below HB.out (by omega))
    replace Bs := Lib.hid (Bs.out.below HB.out (by omega))
    replace l1 := Lib.hid (l1.out.below HB.out (by omega))
    replace Bx := Lib.hid (Bx.out.below HB.out (by omega))
    replace EB := Lib.hid (below_step HB.out EB.out (by omega))
    clear HB
    have m1 := Lib.hid hl
    clear hl
    have vxl := Bx.out.lt
    have vx0 := (Bx.out.2 0 _ rfl).1
    have vx1 := (Bx.out.2 1 _ rfl).1
    go_wp2_with fail
    clear vxl vx0 vx1
    replace d1 := Lib.hid (d1.out.alloc (by omega) (.cells #[.bool (niH sb fd ss Dd), .int .i64 (niS sb fd ss Dd)] 24))
    replace Bs := Lib.hid (Bs.out.alloc (.cells #[.bool (niH sb fd ss Dd), .int .i64 (niS sb fd ss Dd)] 24))
    replace l1 := Lib.hid (l1.out.alloc (by omega) (.cells #[.bool (niH sb fd ss Dd), .int .i64 (niS sb fd ss Dd)] 24))
    replace Bx := Lib.hid (Bx.out.alloc (.cells #[.bool (niH sb fd ss Dd), .int .i64 (niS sb fd ss Dd)] 24))
    replace m1 := Lib.hid (m1.out.alloc (by omega) (.cells #[.bool (niH sb fd ss Dd), .int .i64 (niS sb fd ss Dd)] 24))
    replace EB := Lib.hid (EB.out.alloc (by omega) (.cells #[.bool (niH sb fd ss Dd), .int .i64 (niS sb fd ss Dd)] 24))
    have By := Lib.hid (Box.new w5 24 [.bool (niH sb fd ss Dd), .int .i64 (niS sb fd ss Dd)])
    have s6 : w5.heap.size + 1 ≤ (w5.alloc (.cells #[.bool (niH sb fd ss Dd), .int .i64 (niS sb fd ss Dd)] 24)).heap.size := by simp
    generalize w5.alloc (.cells #[.bool (niH sb fd ss Dd), .int .i64 (niS sb fd ss Dd)] 24) = w6 at *
    refine (equalInts_same l1.out m1.out rfl).mono ?_
    rintro e w7 ⟨rfl, hb⟩
    (try simp only [World.size_alloc, World.size_setCell, World.size_drew] at hb)
    have HB := Lib.hid hb
    clear hb
    have s7 := HB.out.size
    (try simp only [World.size_alloc, World.size_setCell, World.size_drew] at s7)
    replace d1 := Lib.hid (d1.out.below HB.out (by omega))
    replace Bs := Lib.hid (Bs.out.below HB.out (by omega))
    replace l1 := Lib.hid (l1.out.below HB.out (by omega))
    replace Bx := Lib.hid (Bx.out.below HB.out (by omega))
    replace m1 := Lib.hid (m1.out.below HB.out (by omega))
    replace By := Lib.hid (By.out.below HB.out (by omega))
    replace EB := Lib.hid (below_step HB.out EB.out (by omega))
    clear HB
    have vsl := Bs.out.lt
    have vs0 := (Bs.out.2 0 _ rfl).1
    have vs1 := (Bs.out.2 1 _ rfl).1
    go_wp2_with fail
    refine (NlNumber_any).mono ?_
    clear vsl vs0 vs1
    rintro e w8 ⟨rfl, hb⟩
    (try simp only [World.size_alloc, World.size_setCell, World.size_drew] at hb)
    have HB := Lib.hid hb
    clear hb
    have s8 := HB.out.size
    (try simp only [World.size_alloc, World.size_setCell, World.size_drew] at s8)
    replace d1 := Lib.hid (d1.out.below HB.out (by omega))
    replace Bs := Lib.hid (Bs.out.below HB.out (by omega))
    replace l1 := Lib.hid (l1.out.below HB.out (by omega))
    replace Bx := Lib.hid (Bx.out.below HB.out (by omega))
    replace m1 := Lib.hid (m1.out.below HB.out (by omega))
    replace By := Lib.hid (By.out.below HB.out (by omega))
    replace EB := Lib.hid (below_step HB.out EB.out (by omega))
    clear HB
    go_wp2_with fail
    refine (to_intN (CountEnds_any d1.out (by omega) hcd) HCE.out).mono ?_
    rintro e w9 ⟨rfl, hb⟩
    (try simp only [World.size_alloc, World.size_setCell, World.size_drew] at hb)
    have HB := Lib.hid hb
    clear hb
    have s9 := HB.out.size
    (try simp only [World.size_alloc, World.size_setCell, World.size_drew] at s9)
    replace d1 := Lib.hid (d1.out.below HB.out (by omega))
    replace Bs := Lib.hid (Bs.out.below HB.out (by omega))
    replace l1 := Lib.hid (l1.out.below HB.out (by omega))
    replace Bx := Lib.hid (Bx.out.below HB.out (by omega))
    replace m1 := Lib.hid (m1.out.below HB.out (by omega))
    replace By := Lib.hid (By.out.below HB.out (by omega))
    replace EB := Lib.hid (below_step HB.out EB.out (by omega))
    clear HB
    have HNY := Lib.hid (ni_yes (held := sb) (f := fd) HV.out)
    have hnl0 := l1.out.len
    have HLL := Lib.hid hnl0
    have hnl : nl ≤ nd + 1 := by rw [HNY.out.2.2] at hnl0; have h2 := nlM_len fd Dd sb; have h3 := HCD.out; cases sb <;> simp at h2 <;> omega
    clear hnl0
    rw [HNY.out.2.2] at l1 HLL
    have vxl := Bx.out.lt
    have vx0 := (Bx.out.2 0 _ rfl).1
    have vx1 := (Bx.out.2 1 _ rfl).1
    have vsl := Bs.out.lt
    have vs0 := (Bs.out.2 0 _ rfl).1
    have vs1 := (Bs.out.2 1 _ rfl).1
    go_wp2_with fail
    go_loop [10, 11] (fun o i => ∃ k : Nat, k ≤ nl ∧ i = .int .i64 k ∧ o = .int .i64 (((((nlM fd sb Dd).take k).count 10 : Nat)) : Int)) (fun _ i => nl - (intOf i).toNat)
    case atStart => exact ⟨0, Nat.zero_le _, rfl, rfl⟩
    case round =>
      obtain ⟨k, hk, rfl, rfl⟩ := hrel
      have hcl : ((nlM fd sb Dd).take k).count 10 ≤ k := by have h1 := List.count_le_length (a := (10 : Int)) (l := (nlM fd sb Dd).take k); rw [List.length_take] at h1; omega
      by_cases hlt : k < nl
      · obtain ⟨b, o, x, rfl, _, hc, hx⟩ := l1.out.at_ hlt
        have HCS := Lib.hid (count_snoc hx.out)
        have h13 : ¬ x = 13 := fun e => by rcases nlM_mem _ _ _ x (List.mem_of_getElem? hx.out) with h | h; omega; exact h.2 e
        have e13 : (x == 13) = false := by simp [h13]
        obtain ⟨q, hq⟩ : ∃ q, ((nlM fd sb Dd).take k).count 10 = q := ⟨_, rfl⟩
        rw [hq] at hcl HCS ⊢
        clear hq
        by_cases h10 : x = 10
        · subst h10
          go_wp2
          go_round
          case rel => exact ⟨k + 1, by omega, by go_num, by rw [HCS.out]; simp⟩
          case measure => simp [intOf]; omega
        · have e10 : (x == 10) = false := by simp [h10]
          go_wp2
          go_round
          case rel => exact ⟨k + 1, by omega, by go_num, by rw [HCS.out]; simp [h10]⟩
          case measure => simp [intOf]; omega
      · obtain rfl : nl = k := by omega
        have HT : Hid ((nlM fd sb Dd).take nl = nlM fd sb Dd) := List.take_of_length_le (by have := HLL.out; omega)
        rw [HT.out] at hcl ⊢
        have hxh : niH sb fd ss Dd = (nlH sb Dd && !fd) := HNY.out.1
        rw [hxh] at vx0
        cases fd
        · go_wp2
          all_goals (go_ret; exact ⟨(by first | rfl | (refine ret_bool ?_; simp)), EB.out⟩)
        · cases sb
          · have hcc : (nlM true false Dd).count 10 = ct := HCT.out
            rw [hcc] at hcl ⊢
            go_wp2_with fail
            refine (to_intN (CountEnds_any d1.out (by omega) hcd) HCE.out).mono ?_
            clear vxl vx0 vx1 vsl vs0 vs1
            rintro e w10 ⟨rfl, hb⟩
            (try simp only [World.size_alloc, World.size_setCell, World.size_drew] at hb)
            have HB := Lib.hid hb
            clear hb
            have s10 := HB.out.size
            (try simp only [World.size_alloc, World.size_setCell, World.size_drew] at s10)
            replace d1 := Lib.hid (d1.out.below HB.out (by omega))
            replace Bs := Lib.hid (Bs.out.below HB.out (by omega))
            replace l1 := Lib.hid (l1.out.below HB.out (by omega))
            replace Bx := Lib.hid (Bx.out.below HB.out (by omega))
            replace m1 := Lib.hid (m1.out.below HB.out (by omega))
            replace By := Lib.hid (By.out.below HB.out (by omega))
            replace EB := Lib.hid (below_step HB.out EB.out (by omega))
            clear HB
            go_wp2
            go_ret
            exact ⟨(by first | rfl | (refine ret_bool ?_; simp)), EB.out⟩
          · go_wp2
            all_goals (go_ret; exact ⟨(by first | rfl | (refine ret_bool ?_; simp)), EB.out⟩)

theorem contract (H : Type) (enc : TypeId × Value → H) (W : World) (base : Nat) (args : Array Value) (ds gs : List (DataW H)) (before : List MemPlace)
    (hval : ∀ (j : Nat) t v, Try.f4.params[j]? = some t → args[j]? = some v → Value.okWide Try.prog W .any base t v)
    (hW : DataW.Whole enc Try.prog Try.f4.params.toList Rows.fnNewlineInLinesSpec.vars false W args.toList ds gs before) :
    Calls Try.prog 4 args W fun e W' => ∃ v, e = .returned v ∧ Rows.fnNewlineInLinesSpec.post enc Try.prog Try.f4 false true false false W args v W' := by
  have hW' := hW
  have hlt : ∀ p ∈ before, p.block < W.heap.size := fun p hp => hW.lt p hp
  obtain ⟨p, q, hA0, hV, rfl, hfz, hnd⟩ := hW
  have hA : DataW.TrodAll enc Try.prog W 0 (fun _ => true) true Try.f4.params.toList args.toList ds p := hA0
  rw [Try.params4] at hA hval
  obtain ⟨v0, vs0, d0, ds0, p0, q0, hargs, rfl, rfl, h0, r0⟩ := trodAll_cons hA
  obtain ⟨rfl, rfl, rfl⟩ := trodAll_nil r0
  obtain rfl : args = #[v0] := by cases args; simp_all
  obtain ⟨rfl, rfl⟩ := trodVars_none hV
  obtain ⟨A, n, c, rfl, hnc, hby, hmx⟩ := arg_bytes (hval 0 _ v0 rfl rfl) h0 (fun p hp => hlt p (by simp [hp]))
  refine (walk A n c W hby hnc hmx).mono fun e W' hh => ?_
  obtain ⟨rfl, hb⟩ := hh
  exact ⟨_, rfl, law_post laidOut (tys_of (by rw [Try.params4]; kernel_rfl)) hW' rfl rfl rfl Try.underlying4 hb⟩

set_option maxRecDepth 100000 in
theorem lifted (os : Os) (started : os.Started) (H : Type) (enc : TypeId × Value → H) :
    ReturnsInHanded {} Try.checked os 4 .any (Rows.fnNewlineInLinesSpec.pre6 enc Try.prog Try.f4 Rows.fnNewlineInLinesRow.domain false) (Rows.fnNewlineInLinesSpec.post enc Try.prog Try.f4 false true false false) := by
  refine returnsInHanded_of_change (C := Try.checked) own started (by kernel_rfl) Try.func4
    (ChangeSpec.witness6 (C := Try.checked) false ⟨#[], #[.slice none 0 0], []⟩ 8 (by kernel_rfl) (by kernel_rfl) (by kernel_rfl) (by kernel_rfl)) ?_
  intro W base args ds gs before hval hW _ _
  exact contract H enc W base args ds gs before hval hW

theorem holds : Rows.FnNewlineInLinesSaid :=
  OpenClaim.holds_of_wide 4 Try.f4 rfl rfl rfl rfl rfl rfl rfl ⟨rfl, rfl, rfl, rfl, rfl⟩ rfl rfl rfl rfl rfl (by kernel_rfl) Try.func4 (by kernel_rfl)
    (of_decide_eq_true (by kernel_rfl)) (by unfold Func.isWrapper; first | (rw [if_pos (by decide +kernel)]; kernel_rfl) | (rw [if_neg (by decide +kernel)]; exact ⟨rfl, rfl⟩))
    (fun os started H enc _ => lifted os started H enc)
end LawNewlineInLines
end Go.Proofs.Ytlekbmlacinkdaa
