/- The law of promise 50: bytes can come in parts: what the parts give is what all give, and the same state. No conditions. -/
import Derived.Test.YtlekbmlacinkdaaQ2
set_option maxRecDepth 10000
namespace Go.Proofs.Ytlekbmlacinkdaa
open Go.ChangeShapes Go.WideShapes Go.ChangeAt Go.RowKit
set_option linter.unusedSimpArgs false
set_option linter.unusedVariables false
namespace LawNewlineIn
set_option maxHeartbeats 8000000 in
theorem walk (A : Option Addr) (n c : Nat) (w : World) (h : BytesIn w w.heap.size A n) (hnc : n ≤ c) (hm : n ≤ 9223372036854775807) :
    Calls Try.prog 3 #[.slice A n c] w (BoolB true w) := by
  have HBY := Lib.hid h
  clear h
  have EB := Lib.hid (Below.refl w.heap.size w)
  by_cases hbig : (1048576 : Int) < (n : Int)
  · go_enter Try.func3, Try.ntmps3
    go_wp2
    go_ret
    exact ⟨rfl, Below.refl _ _⟩
  go_enter Try.func3, Try.ntmps3
  go_wp2_with fail
  refine (DrawNewlineIn_any HBY.out (by omega) hnc).mono ?_
  rintro e w1 ⟨sb, ss, Ad, nd, cd, Dd, fd, rfl, hss, hcd, hnd, hb, hl⟩
  (try simp only [World.size_alloc, World.size_setCell, World.size_drew] at hb)
  have HB := Lib.hid hb
  clear hb
  have s1 := HB.out.size
  (try simp only [World.size_alloc, World.size_setCell, World.size_drew] at s1)
  replace EB := Lib.hid (below_step HB.out EB.out (by omega))
  clear HB
  have d1 := Lib.hid hl
  clear hl HBY
  go_wp2_with fail
  replace d1 := Lib.hid (d1.out.alloc (by omega) (.cells #[.bool (sb), .int .i64 (ss)] 24))
  replace EB := Lib.hid (EB.out.alloc (by omega) (.cells #[.bool (sb), .int .i64 (ss)] 24))
  have Bs := Lib.hid (Box.new w1 24 [.bool (sb), .int .i64 (ss)])
  have s2 : w1.heap.size + 1 ≤ (w1.alloc (.cells #[.bool (sb), .int .i64 (ss)] 24)).heap.size := by simp
  generalize w1.alloc (.cells #[.bool (sb), .int .i64 (ss)] 24) = w2 at *
  have hso : okInt ss := by unfold okInt; omega
  cases hv : niOk ss Dd
  · have HNO := Lib.hid (ni_no (held := sb) (f := fd) hv)
    have vsl := Bs.out.lt
    have vs0 := (Bs.out.2 0 _ rfl).1
    have vs1 := (Bs.out.2 1 _ rfl).1
    refine (to_nl (NewlineIn_any d1.out (by omega) hcd hso) HNO.out.1 HNO.out.2.1 HNO.out.2.2).mono ?_
    clear vsl vs0 vs1
    rintro e w3 ⟨Al, nl, cl, rfl, hcl, hb, hl⟩
    (try simp only [World.size_alloc, World.size_setCell, World.size_drew] at hb)
    have HB := Lib.hid hb
    clear hb
    have s3 := HB.out.size
    (try simp only [World.size_alloc, World.size_setCell, World.size_drew] at s3)
    replace d1 := Lib.hid (d1.out.below HB.out (by omega))
    replace Bs := Lib.hid (Bs.out.below HB.out (by omega))
    replace EB := Lib.hid (below_step HB.out EB.out (by omega))
    clear HB
    have l1 := Lib.hid hl
    clear hl
    have vsl := Bs.out.lt
    have vs0 := (Bs.out.2 0 _ rfl).1
    have vs1 := (Bs.out.2 1 _ rfl).1
    go_wp2_with fail
    clear vsl vs0 vs1
    replace d1 := Lib.hid (d1.out.alloc (by omega) (.cells #[.bool (false), .int .i64 (0)] 24))
    replace Bs := Lib.hid (Bs.out.alloc (.cells #[.bool (false), .int .i64 (0)] 24))
    replace l1 := Lib.hid (l1.out.alloc (by omega) (.cells #[.bool (false), .int .i64 (0)] 24))
    replace EB := Lib.hid (EB.out.alloc (by omega) (.cells #[.bool (false), .int .i64 (0)] 24))
    have Bx := Lib.hid (Box.new w3 24 [.bool (false), .int .i64 (0)])
    have s4 : w3.heap.size + 1 ≤ (w3.alloc (.cells #[.bool (false), .int .i64 (0)] 24)).heap.size := by simp
    generalize w3.alloc (.cells #[.bool (false), .int .i64 (0)] 24) = w4 at *
    refine (to_nl (SNewlineIn_any d1.out (by omega) hcd hso) HNO.out.1 HNO.out.2.1 HNO.out.2.2).mono ?_
    rintro e w5 ⟨Am, nm, cm, rfl, hcm, hb, hl⟩
    (try simp only [World.size_alloc, World.size_setCell, World.size_drew] at hb)
    have HB := Lib.hid hb
    clear hb
    have s5 := HB.out.size
    (try simp only [World.size_alloc, World.size_setCell, World.size_drew] at s5)
    replace d1 := Lib.hid (d1.out.below HB.out (by omega))
    replace Bs := Lib.hid (Bs.out.below HB.out (by omega))
    replace l1 := Lib.hid (l1.out.below HB.out (by omega))
    replace Bx := Lib.hid (Bx.out.below HB.out (by omega))
    replace EB := Lib.hid (below_step HB.out EB.out (by omega))
    clear HB
    have m1 := Lib.hid hl
    clear hl
    have vxl := Bx.out.lt
    have vx0 := (Bx.out.2 0 _ rfl).1
    have vx1 := (Bx.out.2 1 _ rfl).1
    go_wp2_with fail
    clear vxl vx0 vx1
    replace d1 := Lib.hid (d1.out.alloc (by omega) (.cells #[.bool (false), .int .i64 (0)] 24))
    replace Bs := Lib.hid (Bs.out.alloc (.cells #[.bool (false), .int .i64 (0)] 24))
    replace l1 := Lib.hid (l1.out.alloc (by omega) (.cells #[.bool (false), .int .i64 (0)] 24))
    replace Bx := Lib.hid (Bx.out.alloc (.cells #[.bool (false), .int .i64 (0)] 24))
    replace m1 := Lib.hid (m1.out.alloc (by omega) (.cells #[.bool (false), .int .i64 (0)] 24))
    replace EB := Lib.hid (EB.out.alloc (by omega) (.cells #[.bool (false), .int .i64 (0)] 24))
    have By := Lib.hid (Box.new w5 24 [.bool (false), .int .i64 (0)])
    have s6 : w5.heap.size + 1 ≤ (w5.alloc (.cells #[.bool (false), .int .i64 (0)] 24)).heap.size := by simp
    generalize w5.alloc (.cells #[.bool (false), .int .i64 (0)] 24) = w6 at *
    refine (equalInts_same l1.out m1.out rfl).mono ?_
    rintro e w7 ⟨rfl, hb⟩
    (try simp only [World.size_alloc, World.size_setCell, World.size_drew] at hb)
    have HB := Lib.hid hb
    clear hb
    have s7 := HB.out.size
    (try simp only [World.size_alloc, World.size_setCell, World.size_drew] at s7)
    replace d1 := Lib.hid (d1.out.below HB.out (by omega))
    replace Bs := Lib.hid (Bs.out.below HB.out (by omega))
    replace l1 := Lib.hid (l1.out.below HB.out (by omega))
    replace Bx := Lib.hid (Bx.out.below HB.out (by omega))
    replace m1 := Lib.hid (m1.out.below HB.out (by omega))
    replace By := Lib.hid (By.out.below HB.out (by omega))
    replace EB := Lib.hid (below_step HB.out EB.out (by omega))
    clear HB
    have vsl := Bs.out.lt
    have vs0 := (Bs.out.2 0 _ rfl).1
    have vs1 := (Bs.out.2 1 _ rfl).1
    go_wp2_with fail
    cases hs7 : inB ss 0 7
    · refine (to_intN NlNumber_any (nn_no hs7)).mono ?_
      clear vsl vs0 vs1
      rintro e w8 ⟨rfl, hb⟩
      (try simp only [World.size_alloc, World.size_setCell, World.size_drew] at hb)
      have HB := Lib.hid hb
      clear hb
      have s8 := HB.out.size
      (try simp only [World.size_alloc, World.size_setCell, World.size_drew] at s8)
      replace d1 := Lib.hid (d1.out.below HB.out (by omega))
      replace Bs := Lib.hid (Bs.out.below HB.out (by omega))
      replace l1 := Lib.hid (l1.out.below HB.out (by omega))
      replace Bx := Lib.hid (Bx.out.below HB.out (by omega))
      replace m1 := Lib.hid (m1.out.below HB.out (by omega))
      replace By := Lib.hid (By.out.below HB.out (by omega))
      replace EB := Lib.hid (below_step HB.out EB.out (by omega))
      clear HB
      have vxl := Bx.out.lt
      have vx0 := (Bx.out.2 0 _ rfl).1
      have vx1 := (Bx.out.2 1 _ rfl).1
      have vyl := By.out.lt
      have vy0 := (By.out.2 0 _ rfl).1
      have vy1 := (By.out.2 1 _ rfl).1
      go_wp2_with fail
      refine (equalInts_same l1.out m1.out rfl).mono ?_
      clear vxl vx0 vx1 vyl vy0 vy1
      rintro e w9 ⟨rfl, hb⟩
      (try simp only [World.size_alloc, World.size_setCell, World.size_drew] at hb)
      have HB := Lib.hid hb
      clear hb
      have s9 := HB.out.size
      (try simp only [World.size_alloc, World.size_setCell, World.size_drew] at s9)
      replace d1 := Lib.hid (d1.out.below HB.out (by omega))
      replace Bs := Lib.hid (Bs.out.below HB.out (by omega))
      replace l1 := Lib.hid (l1.out.below HB.out (by omega))
      replace Bx := Lib.hid (Bx.out.below HB.out (by omega))
      replace m1 := Lib.hid (m1.out.below HB.out (by omega))
      replace By := Lib.hid (By.out.below HB.out (by omega))
      replace EB := Lib.hid (below_step HB.out EB.out (by omega))
      clear HB
      go_wp2
      go_ret
      exact ⟨rfl, EB.out⟩
    · have hbf : bytesB Dd = false := by simpa [niOk, hs7] using hv
      obtain ⟨_, _, _, q4, q5⟩ := ns_nn (b := sb) hs7
      refine (NlNumber_any).mono ?_
      clear vsl vs0 vs1
      rintro e w8 ⟨rfl, hb⟩
      (try simp only [World.size_alloc, World.size_setCell, World.size_drew] at hb)
      have HB := Lib.hid hb
      clear hb
      have s8 := HB.out.size
      (try simp only [World.size_alloc, World.size_setCell, World.size_drew] at s8)
      replace d1 := Lib.hid (d1.out.below HB.out (by omega))
      replace Bs := Lib.hid (Bs.out.below HB.out (by omega))
      replace l1 := Lib.hid (l1.out.below HB.out (by omega))
      replace Bx := Lib.hid (Bx.out.below HB.out (by omega))
      replace m1 := Lib.hid (m1.out.below HB.out (by omega))
      replace By := Lib.hid (By.out.below HB.out (by omega))
      replace EB := Lib.hid (below_step HB.out EB.out (by omega))
      clear HB
      go_wp2_with fail
      refine (to_intN (CountEnds_any d1.out (by omega) hcd) (ce_no hbf)).mono ?_
      rintro e w9 ⟨rfl, hb⟩
      (try simp only [World.size_alloc, World.size_setCell, World.size_drew] at hb)
      have HB := Lib.hid hb
      clear hb
      have s9 := HB.out.size
      (try simp only [World.size_alloc, World.size_setCell, World.size_drew] at s9)
      replace d1 := Lib.hid (d1.out.below HB.out (by omega))
      replace Bs := Lib.hid (Bs.out.below HB.out (by omega))
      replace l1 := Lib.hid (l1.out.below HB.out (by omega))
      replace Bx := Lib.hid (Bx.out.below HB.out (by omega))
      replace m1 := Lib.hid (m1.out.below HB.out (by omega))
      replace By := Lib.hid (By.out.below HB.out (by omega))
      replace EB := Lib.hid (below_step HB.out EB.out (by omega))
      clear HB
      have vxl := Bx.out.lt
      have vx0 := (Bx.out.2 0 _ rfl).1
      have vx1 := (Bx.out.2 1 _ rfl).1
      have vyl := By.out.lt
      have vy0 := (By.out.2 0 _ rfl).1
      have vy1 := (By.out.2 1 _ rfl).1
      go_wp2_with fail
      refine (equalInts_same l1.out m1.out rfl).mono ?_
      clear vxl vx0 vx1 vyl vy0 vy1
      rintro e w10 ⟨rfl, hb⟩
      (try simp only [World.size_alloc, World.size_setCell, World.size_drew] at hb)
      have HB := Lib.hid hb
      clear hb
      have s10 := HB.out.size
      (try simp only [World.size_alloc, World.size_setCell, World.size_drew] at s10)
      replace d1 := Lib.hid (d1.out.below HB.out (by omega))
      replace Bs := Lib.hid (Bs.out.below HB.out (by omega))
      replace l1 := Lib.hid (l1.out.below HB.out (by omega))
      replace Bx := Lib.hid (Bx.out.below HB.out (by omega))
      replace m1 := Lib.hid (m1.out.below HB.out (by omega))
      replace By := Lib.hid (By.out.below HB.out (by omega))
      replace EB := Lib.hid (below_step HB.out EB.out (by omega))
      clear HB
      go_wp2
      go_ret
      exact ⟨rfl, EB.out⟩
  · have hv' := hv
    unfold niOk at hv'
    rw [Bool.and_eq_true] at hv'
    obtain ⟨hs7, hbD⟩ := hv'
    obtain ⟨_, _, _, q4, q5⟩ := ns_nn (b := sb) hs7
    have HCE := Lib.hid (ce_yes hbD)
    obtain ⟨ct, hct⟩ : ∃ ct, c10 Dd = ct := ⟨_, rfl⟩
    rw [hct] at HCE
    have HCT := Lib.hid hct
    have HV := Lib.hid hv
    have HS7 := Lib.hid hs7
    have HBD := Lib.hid hbD
    have hcl : c10 Dd ≤ Dd.length := Nat.le_trans List.count_le_length (nlM_free_len true Dd)
    have hcd0 := d1.out.len
    have hcn : ct ≤ nd := by omega
    have HCD := Lib.hid hcd0
    clear hct hv hs7 hbD hcl hcd0
    have vsl := Bs.out.lt
    have vs0 := (Bs.out.2 0 _ rfl).1
    have vs1 := (Bs.out.2 1 _ rfl).1
    refine (to_nl (NewlineIn_any d1.out (by omega) hcd hso) rfl rfl rfl).mono ?_
    clear vsl vs0 vs1
    rintro e w3 ⟨Al, nl, cl, rfl, hcl, hb, hl⟩
    (try simp only [World.size_alloc, World.size_setCell, World.size_drew] at hb)
    have HB := Lib.hid hb
    clear hb
    have s3 := HB.out.size
    (try simp only [World.size_alloc, World.size_setCell, World.size_drew] at s3)
    replace d1 := Lib.hid (d1.out.below HB.out (by omega))
    replace Bs := Lib.hid (Bs.out.below HB.out (by omega))
    replace EB := Lib.hid (below_step HB.out EB.out (by omega))
    clear HB
    have l1 := Lib.hid hl
    clear hl
    have vsl := Bs.out.lt
    have vs0 := (Bs.out.2 0 _ rfl).1
    have vs1 := (Bs.out.2 1 _ rfl).1
    go_wp2_with fail
    clear vsl vs0 vs1
    replace d1 := Lib.hid (d1.out.alloc (by omega) (.cells #[.bool (niH sb fd ss Dd), .int .i64 (niS sb fd ss Dd)] 24))
    replace Bs := Lib.hid (Bs.out.alloc (.cells #[.bool (niH sb fd ss Dd), .int .i64 (niS sb fd ss Dd)] 24))
    replace l1 := Lib.hid (l1.out.alloc (by omega) (.cells #[.bool (niH sb fd ss Dd), .int .i64 (niS sb fd ss Dd)] 24))
    replace EB := Lib.hid (EB.out.alloc (by omega) (.cells #[.bool (niH sb fd ss Dd), .int .i64 (niS sb fd ss Dd)] 24))
    have Bx := Lib.hid (Box.new w3 24 [.bool (niH sb fd ss Dd), .int .i64 (niS sb fd ss Dd)])
    have s4 : w3.heap.size + 1 ≤ (w3.alloc (.cells #[.bool (niH sb fd ss Dd), .int .i64 (niS sb fd ss Dd)] 24)).heap.size := by simp
    generalize w3.alloc (.cells #[.bool (niH sb fd ss Dd), .int .i64 (niS sb fd ss Dd)] 24) = w4 at *
    refine (to_nl (SNewlineIn_any d1.out (by omega) hcd hso) rfl rfl rfl).mono ?_
    rintro e w5 ⟨Am, nm, cm, rfl, hcm, hb, hl⟩
    (try simp only [World.size_alloc, World.size_setCell, World.size_drew] at hb)
    have HB := Lib.hid hb
    clear hb
    have s5 := HB.out.size
    (try simp only [World.size_alloc, World.size_setCell, World.size_drew] at s5)
    replace d1 := Lib.hid (d1.out.below HB.out (by omega))
    replace Bs := Lib.hid (Bs.out.below HB.out (by omega))
    replace l1 := Lib.hid (l1.out.below HB.out (by omega))
    replace Bx := Lib.hid (Bx.out.below HB.out (by omega))
    replace EB := Lib.hid (below_step HB.out EB.out (by omega))
    clear HB
    have m1 := Lib.hid hl
    clear hl
    have vxl := Bx.out.lt
    have vx0 := (Bx.out.2 0 _ rfl).1
    have vx1 := (Bx.out.2 1 _ rfl).1
    go_wp2_with fail
    clear vxl vx0 vx1
    replace d1 := Lib.hid (d1.out.alloc (by omega) (.cells #[.bool (niH sb fd ss Dd), .int .i64 (niS sb fd ss Dd)] 24))
    replace Bs := Lib.hid (Bs.out.alloc (.cells #[.bool (niH sb fd ss Dd), .int .i64 (niS sb fd ss Dd)] 24))
    replace l1 := Lib.hid (l1.out.alloc (by omega) (.cells #[.bool (niH sb fd ss Dd), .int .i64 (niS sb fd ss Dd)] 24))
    replace Bx := Lib.hid (Bx.out.alloc (.cells #[.bool (niH sb fd ss Dd), .int .i64 (niS sb fd ss Dd)] 24))
    replace m1 := Lib.hid (m1.out.alloc (by omega) (.cells #[.bool (niH sb fd ss Dd), .int .i64 (niS sb fd ss Dd)] 24))
    replace EB := Lib.hid (EB.out.alloc (by omega) (.cells #[.bool (niH sb fd ss Dd), .int .i64 (niS sb fd ss Dd)] 24))
    have By := Lib.hid (Box.new w5 24 [.bool (niH sb fd ss Dd), .int .i64 (niS sb fd ss Dd)])
    have s6 : w5.heap.size + 1 ≤ (w5.alloc (.cells #[.bool (niH sb fd ss Dd), .int .i64 (niS sb fd ss Dd)] 24)).heap.size := by simp
    generalize w5.alloc (.cells #[.bool (niH sb fd ss Dd), .int .i64 (niS sb fd ss Dd)] 24) = w6 at *
    refine (equalInts_same l1.out m1.out rfl).mono ?_
    rintro e w7 ⟨rfl, hb⟩
    (try simp only [World.size_alloc, World.size_setCell, World.size_drew] at hb)
    have HB := Lib.hid hb
    clear hb
    have s7 := HB.out.size
    (try simp only [World.size_alloc, World.size_setCell, World.size_drew] at s7)
    replace d1 := Lib.hid (d1.out.below HB.out (by omega))
    replace Bs := Lib.hid (Bs.out.below HB.out (by omega))
    replace l1 := Lib.hid (l1.out.below HB.out (by omega))
    replace Bx := Lib.hid (Bx.out.below HB.out (by omega))
    replace m1 := Lib.hid (m1.out.below HB.out (by omega))
    replace By := Lib.hid (By.out.below HB.out (by omega))
    replace EB := Lib.hid (below_step HB.out EB.out (by omega))
    clear HB
    have vsl := Bs.out.lt
    have vs0 := (Bs.out.2 0 _ rfl).1
    have vs1 := (Bs.out.2 1 _ rfl).1
    go_wp2_with fail
    refine (NlNumber_any).mono ?_
    clear vsl vs0 vs1
    rintro e w8 ⟨rfl, hb⟩
    (try simp only [World.size_alloc, World.size_setCell, World.size_drew] at hb)
    have HB := Lib.hid hb
    clear hb
    have s8 := HB.out.size
    (try simp only [World.size_alloc, World.size_setCell, World.size_drew] at s8)
    replace d1 := Lib.hid (d1.out.below HB.out (by omega))
    replace Bs := Lib.hid (Bs.out.below HB.out (by omega))
    replace l1 := Lib.hid (l1.out.below HB.out (by omega))
    replace Bx := Lib.hid (Bx.out.below HB.out (by omega))
    replace m1 := Lib.hid (m1.out.below HB.out (by omega))
    replace By := Lib.hid (By.out.below HB.out (by omega))
    replace EB := Lib.hid (below_step HB.out EB.out (by omega))
    clear HB
    go_wp2_with fail
    refine (to_intN (CountEnds_any d1.out (by omega) hcd) HCE.out).mono ?_
    rintro e w9 ⟨rfl, hb⟩
    (try simp only [World.size_alloc, World.size_setCell, World.size_drew] at hb)
    have HB := Lib.hid hb
    clear hb
    have s9 := HB.out.size
    (try simp only [World.size_alloc, World.size_setCell, World.size_drew] at s9)
    replace d1 := Lib.hid (d1.out.below HB.out (by omega))
    replace Bs := Lib.hid (Bs.out.below HB.out (by omega))
    replace l1 := Lib.hid (l1.out.below HB.out (by omega))
    replace Bx := Lib.hid (Bx.out.below HB.out (by omega))
    replace m1 := Lib.hid (m1.out.below HB.out (by omega))
    replace By := Lib.hid (By.out.below HB.out (by omega))
    replace EB := Lib.hid (below_step HB.out EB.out (by omega))
    clear HB
    have NC := Lib.hid (fun k => nl_cut (held := sb) (f := fd) k HV.out)
    have vxl := Bx.out.lt
    have vx0 := (Bx.out.2 0 _ rfl).1
    have vx1 := (Bx.out.2 1 _ rfl).1
    have vsl := Bs.out.lt
    have vs0 := (Bs.out.2 0 _ rfl).1
    have vs1 := (Bs.out.2 1 _ rfl).1
    go_wp2_with fail
    clear vxl vx0 vx1 vsl vs0 vs1
    go_loopw [10] (fun i wr => ∃ k : Nat, k ≤ nd + 1 ∧ i = .int .i64 k ∧ Hid (Below w9.heap.size w9 wr)) (fun i _ => nd + 1 - (intOf i).toNat)
    case atStart => exact ⟨0, by omega, rfl, Below.refl _ _⟩
    case round =>
      obtain ⟨k, hk, rfl, HBR⟩ := hrel
      have sr := HBR.out.size
      have d1r := Lib.hid (d1.out.below HBR.out (by omega))
      have l1r := Lib.hid (l1.out.below HBR.out (by omega))
      have Bsr := Lib.hid (Bs.out.below HBR.out (by omega))
      have Bxr := Lib.hid (Bx.out.below HBR.out (by omega))
      by_cases hkn : k ≤ nd
      · obtain ⟨c1, c2, c3, c4, c5⟩ := NC.out k
        have hkc : (k : Int) ≤ (cd : Int) := by omega
        have hk0 : (0 : Int) ≤ (k : Int) := by omega
        have hkd : (k : Int) ≤ (nd : Int) := by omega
        obtain ⟨Hh, hH1⟩ : ∃ Hh, niH sb false ss (Dd.take k) = Hh := ⟨_, rfl⟩
        obtain ⟨Sh, hS1⟩ : ∃ Sh, niS sb false ss (Dd.take k) = Sh := ⟨_, rfl⟩
        obtain ⟨Rh, hR1⟩ : ∃ Rh, niL sb false ss (Dd.take k) = Rh := ⟨_, rfl⟩
        rw [hH1, hS1] at c1 c2 c3
        rw [hS1] at c4 c5
        rw [hR1] at c3
        have hso1 : okInt Sh := by unfold okInt; omega
        obtain ⟨Rg, hR2⟩ : ∃ Rg, niL Hh fd Sh (Dd.drop k) = Rg := ⟨_, rfl⟩
        rw [hR2] at c3
        obtain ⟨He, hHe⟩ : ∃ He, niH sb fd ss Dd = He := ⟨_, rfl⟩
        obtain ⟨Se, hSe⟩ : ∃ Se, niS sb fd ss Dd = Se := ⟨_, rfl⟩
        obtain ⟨Re, hRe⟩ : ∃ Re, niL sb fd ss Dd = Re := ⟨_, rfl⟩
        rw [hHe] at c1 Bxr ⊢
        rw [hSe] at c2 Bxr ⊢
        rw [hRe] at c3 l1r
        have C1 := Lib.hid c1; have C2 := Lib.hid c2; have C3 := Lib.hid c3; have HH1 := Lib.hid hH1; have HS1 := Lib.hid hS1; have HR1 := Lib.hid hR1; have HR2 := Lib.hid hR2
        have hl1 : Rh.length ≤ 100 := by rw [← hR1]; have h1 := nlM_len false (Dd.take k) sb; have h2 := HCD.out; unfold niL; split; (rw [List.length_take] at h1; cases sb <;> simp at h1 <;> omega); simp
        have hl2 : Rg.length ≤ 100 := by rw [← hR2]; have h1 := nlM_len fd (Dd.drop k) Hh; have h2 := HCD.out; unfold niL; split; (rw [List.length_drop] at h1; cases Hh <;> simp at h1 <;> omega); simp
        clear c1 c2 c3 hH1 hS1 hR1 hR2 hHe hSe hRe
        have gs0 := (Bsr.out.2 0 _ rfl).1; have gs1 := (Bsr.out.2 1 _ rfl).1; have gsl := Bsr.out.lt
        have nn0 := World.new_ne wr _ gs0; have nn1 := World.new_ne wr _ gs1
        go_wp2_with fail
        go_region_held3 (fun w' => w'.cell? ⟨w1.heap.size, 0, none⟩ = some (.bool sb) ∧ w'.cell? ⟨w1.heap.size, 1, none⟩ = some (.int .i64 ss)) (go_keep)
          (first | (go_at_call 12; (with_reducible refine (to_nl (NewlineIn_any (d1r.out.drew.take hkn) (by first | omega | (simp; omega) | (simp; done)) (by omega) hso) HH1.out HS1.out HR1.out).mono ?_); rintro e wa ⟨Af, nf, cf, rfl, hcf, hb, hl⟩; (try simp only [World.size_alloc, World.size_setCell, World.size_drew] at hb hl); have HAa := Lib.hid hb; have saa := hb.size; (try simp only [World.size_alloc, World.size_setCell, World.size_drew] at saa); have La := Lib.hid hl; have Ba := Lib.hid (Bsr.out.drew.below hb (by omega)); clear hb hl; have gs0 := (Ba.out.2 0 _ rfl).1; have gs1 := (Ba.out.2 1 _ rfl).1) | (go_at_call 12; (with_reducible refine (to_nl (NewlineIn_any ((d1r.out.alloc (by omega) (.cells #[.bool false, .int .i64 0] 24)).drew.take hkn) (by first | omega | (simp; omega) | (simp; done)) (by omega) hso) HH1.out HS1.out HR1.out).mono ?_); rintro e wa ⟨Af, nf, cf, rfl, hcf, hb, hl⟩; (try simp only [World.size_alloc, World.size_setCell, World.size_drew] at hb hl); have HAa := Lib.hid hb; have saa := hb.size; (try simp only [World.size_alloc, World.size_setCell, World.size_drew] at saa); have La := Lib.hid hl; have Ba := Lib.hid ((Bsr.out.alloc (.cells #[.bool false, .int .i64 0] 24)).drew.below hb (by omega)); have BN := Lib.hid ((Box.new wr 24 [.bool false, .int .i64 0]).drew.below hb (by simp)); have n0 := (BN.out.2 0 _ rfl).1; have n1 := (BN.out.2 1 _ rfl).1; have nf0 := (BN.out.2 0 _ rfl).2; have nf1 := (BN.out.2 1 _ rfl).2; clear hb hl; have gs0 := (Ba.out.2 0 _ rfl).1; have gs1 := (Ba.out.2 1 _ rfl).1) | fail)
        · skip
          have d2 := Lib.hid ((d1r.out.drew.below HAa.out (by omega)).alloc (by omega) (.cells #[.bool Hh, .int .i64 Sh] 24))
          have l2 := Lib.hid ((l1r.out.drew.below HAa.out (by omega)).alloc (by omega) (.cells #[.bool Hh, .int .i64 Sh] 24))
          have f2 := Lib.hid (La.out.alloc (by omega) (.cells #[.bool Hh, .int .i64 Sh] 24))
          have Bx2 := Lib.hid ((Bxr.out.drew.below HAa.out (by omega)).alloc (.cells #[.bool Hh, .int .i64 Sh] 24))
          have M2 : Hid (Box (wa.alloc (.cells #[.bool Hh, .int .i64 Sh] 24)) wa.heap.size [.bool Hh, .int .i64 Sh]) := Box.new wa 24 [.bool Hh, .int .i64 Sh]
          have Ewb : Hid (Below w9.heap.size w9 (wa.alloc (.cells #[.bool Hh, .int .i64 Sh] 24))) := (below_step HAa.out HBR.out.drew (by omega)).alloc (by omega) _
          have zwb : wa.heap.size + 1 ≤ (wa.alloc (.cells #[.bool Hh, .int .i64 Sh] 24)).heap.size := by simp
          generalize (wa.alloc (.cells #[.bool Hh, .int .i64 Sh] 24)) = wb at *
          clear gs0 gs1 gsl nn0 nn1 Ba La HAa
          have ms0 := (M2.out.2 0 _ rfl).1; have ms1 := (M2.out.2 1 _ rfl).1; have msl := M2.out.lt
          have nn0 := World.new_ne wb _ ms0; have nn1 := World.new_ne wb _ ms1
          have xs0 := (Bx2.out.2 0 _ rfl).1; have xs1 := (Bx2.out.2 1 _ rfl).1; have xsl := Bx2.out.lt
          have nx0 := World.new_ne wb _ xs0; have nx1 := World.new_ne wb _ xs1
          rcases (by omega : k < nd ∨ (k = nd ∧ cd = nd) ∨ (k = nd ∧ nd < cd)) with hq | ⟨rfl, hcq⟩ | ⟨rfl, hq⟩
          · skip
            have hck : ¬ cd = k := by omega
            go_wp2_with fail
            go_region_held3 (fun w' => w'.cell? ⟨wa.heap.size, 0, none⟩ = some (.bool Hh) ∧ w'.cell? ⟨wa.heap.size, 1, none⟩ = some (.int .i64 Sh)) (go_keep)
              (first | (go_at_call 12; (with_reducible refine (to_nl (NewlineIn_any (d2.out.drew.drop hkn) (by first | omega | (simp; omega) | (simp; done)) (by omega) hso1) C1.out C2.out HR2.out).mono ?_); rintro e wc ⟨Ag, ng, cg, rfl, hcg, hb, hl⟩; (try simp only [World.size_alloc, World.size_setCell, World.size_drew] at hb hl); have HAc := Lib.hid hb; have sac := hb.size; (try simp only [World.size_alloc, World.size_setCell, World.size_drew] at sac); have Lc := Lib.hid hl; have Bc := Lib.hid (M2.out.drew.below hb (by omega)); clear hb hl; have ms0 := (Bc.out.2 0 _ rfl).1; have ms1 := (Bc.out.2 1 _ rfl).1) | (go_at_call 12; (with_reducible refine (to_nl (NewlineIn_any ((d2.out.alloc (by omega) (.cells #[.bool false, .int .i64 0] 24)).drew.drop hkn) (by first | omega | (simp; omega) | (simp; done)) (by omega) hso1) C1.out C2.out HR2.out).mono ?_); rintro e wc ⟨Ag, ng, cg, rfl, hcg, hb, hl⟩; (try simp only [World.size_alloc, World.size_setCell, World.size_drew] at hb hl); have HAc := Lib.hid hb; have sac := hb.size; (try simp only [World.size_alloc, World.size_setCell, World.size_drew] at sac); have Lc := Lib.hid hl; have Bc := Lib.hid ((M2.out.alloc (.cells #[.bool false, .int .i64 0] 24)).drew.below hb (by omega)); have BN := Lib.hid ((Box.new wb 24 [.bool false, .int .i64 0]).drew.below hb (by simp)); have n0 := (BN.out.2 0 _ rfl).1; have n1 := (BN.out.2 1 _ rfl).1; have nf0 := (BN.out.2 0 _ rfl).2; have nf1 := (BN.out.2 1 _ rfl).2; clear hb hl; have ms0 := (Bc.out.2 0 _ rfl).1; have ms1 := (Bc.out.2 1 _ rfl).1) | fail)
            · skip
              have l3 := Lib.hid ((l2.out.drew.below HAc.out (by omega)).alloc (by omega) (.cells #[.bool He, .int .i64 Se] 24))
              have f3 := Lib.hid ((f2.out.drew.below HAc.out (by omega)).alloc (by omega) (.cells #[.bool He, .int .i64 Se] 24))
              have h3 := Lib.hid (Lc.out.alloc (by omega) (.cells #[.bool He, .int .i64 Se] 24))
              have Bx3 := Lib.hid ((Bx2.out.drew.below HAc.out (by omega)).alloc (.cells #[.bool He, .int .i64 Se] 24))
              have N3 : Hid (Box (wc.alloc (.cells #[.bool He, .int .i64 Se] 24)) wc.heap.size [.bool He, .int .i64 Se]) := Box.new wc 24 [.bool He, .int .i64 Se]
              have Ewe : Hid (Below w9.heap.size w9 (wc.alloc (.cells #[.bool He, .int .i64 Se] 24))) := (below_step HAc.out Ewb.out.drew (by omega)).alloc (by omega) _
              have zwe : wc.heap.size + 1 ≤ (wc.alloc (.cells #[.bool He, .int .i64 Se] 24)).heap.size := by simp
              generalize (wc.alloc (.cells #[.bool He, .int .i64 Se] 24)) = we at *
              clear ms0 ms1 msl nn0 nn1 xs0 xs1 xsl nx0 nx1 Bc Lc HAc
              have es0 := (N3.out.2 0 _ rfl).1; have es1 := (N3.out.2 1 _ rfl).1; have esl := N3.out.lt
              have xs0 := (Bx3.out.2 0 _ rfl).1; have xs1 := (Bx3.out.2 1 _ rfl).1; have xsl := Bx3.out.lt
              have hfl : nf ≤ 100 := by have := f3.out.len; omega
              have hgl : ng ≤ 100 := by have := h3.out.len; omega
              go_wp2_with fail
              refine (to_listN (join_any f3.out h3.out (by omega) (by omega) (by omega) (by omega)) C3.out).mono ?_
              rintro e wf ⟨Aj, nj, cj, rfl, hcj, hb, hl⟩
              have Ewf : Hid (Below w9.heap.size w9 wf) := below_step hb Ewe.out (by omega)
              have l4 := Lib.hid (l3.out.below hb (by omega))
              have j4 := Lib.hid hl
              have zf := hb.size
              clear hb hl es0 es1 xs0 xs1
              go_wp2_with fail
              refine (equalInts_same j4.out l4.out rfl).mono ?_
              rintro e wg ⟨rfl, hb⟩
              have Ewg : Hid (Below w9.heap.size w9 wg) := below_step hb Ewf.out (by omega)
              clear hb
              go_wp2
              go_roundw
              case rel => exact ⟨k + 1, by omega, by go_num, Ewg⟩
              case measure => first | (simp [intOf]; done) | (simp [intOf]; omega)
            · skip
              have l3 := Lib.hid ((((l2.out.alloc (by omega) (.cells #[.bool false, .int .i64 0] 24)).drew.below HAc.out (by omega)).set_ (b := wb.heap.size) (o := 0) (by omega) (.bool He)).set_ (b := wb.heap.size) (o := 1) (by omega) (.int .i64 Se))
              have f3 := Lib.hid ((((f2.out.alloc (by omega) (.cells #[.bool false, .int .i64 0] 24)).drew.below HAc.out (by omega)).set_ (b := wb.heap.size) (o := 0) (by omega) (.bool He)).set_ (b := wb.heap.size) (o := 1) (by omega) (.int .i64 Se))
              have h3 := Lib.hid ((Lc.out.set_ (b := wb.heap.size) (o := 0) (by omega) (.bool He)).set_ (b := wb.heap.size) (o := 1) (by omega) (.int .i64 Se))
              have Bx3 := Lib.hid ((((Bx2.out.alloc (.cells #[.bool false, .int .i64 0] 24)).drew.below HAc.out (by omega)).set_ (b' := wb.heap.size) (o := 0) (by omega) (.bool He)).set_ (b' := wb.heap.size) (o := 1) (by omega) (.int .i64 Se))
              have N3 : Hid (Box ((wc.setCell ⟨wb.heap.size, 0, none⟩ (.bool He)).setCell ⟨wb.heap.size, 1, none⟩ (.int .i64 Se)) wb.heap.size [.bool He, .int .i64 Se]) := by show Box _ _ _; have hx := (BN.out.put (i := 0) (by simp) (.bool He)).put (i := 1) (by simp) (.int .i64 Se); simpa using hx
              have Ewe : Hid (Below w9.heap.size w9 ((wc.setCell ⟨wb.heap.size, 0, none⟩ (.bool He)).setCell ⟨wb.heap.size, 1, none⟩ (.int .i64 Se))) := by show Below _ _ _; (repeat (with_reducible refine below_set ?_ (by omega) _)); exact below_step HAc.out (Ewb.out.alloc (by omega) _).drew (by omega)
              have zwe : wc.heap.size + 0 ≤ ((wc.setCell ⟨wb.heap.size, 0, none⟩ (.bool He)).setCell ⟨wb.heap.size, 1, none⟩ (.int .i64 Se)).heap.size := by simp
              generalize ((wc.setCell ⟨wb.heap.size, 0, none⟩ (.bool He)).setCell ⟨wb.heap.size, 1, none⟩ (.int .i64 Se)) = we at *
              clear ms0 ms1 msl nn0 nn1 xs0 xs1 xsl nx0 nx1 Bc Lc HAc BN n0 n1 nf0 nf1
              have es0 := (N3.out.2 0 _ rfl).1; have es1 := (N3.out.2 1 _ rfl).1; have esl := N3.out.lt
              have xs0 := (Bx3.out.2 0 _ rfl).1; have xs1 := (Bx3.out.2 1 _ rfl).1; have xsl := Bx3.out.lt
              have hfl : nf ≤ 100 := by have := f3.out.len; omega
              have hgl : ng ≤ 100 := by have := h3.out.len; omega
              go_wp2_with fail
              refine (to_listN (join_any f3.out h3.out (by omega) (by omega) (by omega) (by omega)) C3.out).mono ?_
              rintro e wf ⟨Aj, nj, cj, rfl, hcj, hb, hl⟩
              have Ewf : Hid (Below w9.heap.size w9 wf) := below_step hb Ewe.out (by omega)
              have l4 := Lib.hid (l3.out.below hb (by omega))
              have j4 := Lib.hid hl
              have zf := hb.size
              clear hb hl es0 es1 xs0 xs1
              go_wp2_with fail
              refine (equalInts_same j4.out l4.out rfl).mono ?_
              rintro e wg ⟨rfl, hb⟩
              have Ewg : Hid (Below w9.heap.size w9 wg) := below_step hb Ewf.out (by omega)
              clear hb
              go_wp2
              go_roundw
              case rel => exact ⟨k + 1, by omega, by go_num, Ewg⟩
              case measure => first | (simp [intOf]; done) | (simp [intOf]; omega)
          · skip
            have hcq2 := hcq.symm
            subst hcq2
            go_wp2_with fail
            go_region_held3 (fun w' => w'.cell? ⟨wa.heap.size, 0, none⟩ = some (.bool Hh) ∧ w'.cell? ⟨wa.heap.size, 1, none⟩ = some (.int .i64 Sh)) (go_keep)
              (first | (go_at_call 12; (with_reducible refine (to_nl (NewlineIn_any (d2.out.drew.goneN (Nat.le_refl _) _) (by first | omega | (simp; omega) | (simp; done)) (by omega) hso1) C1.out C2.out HR2.out).mono ?_); rintro e wc ⟨Ag, ng, cg, rfl, hcg, hb, hl⟩; (try simp only [World.size_alloc, World.size_setCell, World.size_drew] at hb hl); have HAc := Lib.hid hb; have sac := hb.size; (try simp only [World.size_alloc, World.size_setCell, World.size_drew] at sac); have Lc := Lib.hid hl; have Bc := Lib.hid (M2.out.drew.below hb (by omega)); clear hb hl; have ms0 := (Bc.out.2 0 _ rfl).1; have ms1 := (Bc.out.2 1 _ rfl).1) | (go_at_call 12; (with_reducible refine (to_nl (NewlineIn_any ((d2.out.alloc (by omega) (.cells #[.bool false, .int .i64 0] 24)).drew.goneN (Nat.le_refl _) _) (by first | omega | (simp; omega) | (simp; done)) (by omega) hso1) C1.out C2.out HR2.out).mono ?_); rintro e wc ⟨Ag, ng, cg, rfl, hcg, hb, hl⟩; (try simp only [World.size_alloc, World.size_setCell, World.size_drew] at hb hl); have HAc := Lib.hid hb; have sac := hb.size; (try simp only [World.size_alloc, World.size_setCell, World.size_drew] at sac); have Lc := Lib.hid hl; have Bc := Lib.hid ((M2.out.alloc (.cells #[.bool false, .int .i64 0] 24)).drew.below hb (by omega)); have BN := Lib.hid ((Box.new wb 24 [.bool false, .int .i64 0]).drew.below hb (by simp)); have n0 := (BN.out.2 0 _ rfl).1; have n1 := (BN.out.2 1 _ rfl).1; have nf0 := (BN.out.2 0 _ rfl).2; have nf1 := (BN.out.2 1 _ rfl).2; clear hb hl; have ms0 := (Bc.out.2 0 _ rfl).1; have ms1 := (Bc.out.2 1 _ rfl).1) | fail)
            · skip
              have l3 := Lib.hid ((l2.out.drew.below HAc.out (by omega)).alloc (by omega) (.cells #[.bool He, .int .i64 Se] 24))
              have f3 := Lib.hid ((f2.out.drew.below HAc.out (by omega)).alloc (by omega) (.cells #[.bool He, .int .i64 Se] 24))
              have h3 := Lib.hid (Lc.out.alloc (by omega) (.cells #[.bool He, .int .i64 Se] 24))
              have Bx3 := Lib.hid ((Bx2.out.drew.below HAc.out (by omega)).alloc (.cells #[.bool He, .int .i64 Se] 24))
              have N3 : Hid (Box (wc.alloc (.cells #[.bool He, .int .i64 Se] 24)) wc.heap.size [.bool He, .int .i64 Se]) := Box.new wc 24 [.bool He, .int .i64 Se]
              have Ewe : Hid (Below w9.heap.size w9 (wc.alloc (.cells #[.bool He, .int .i64 Se] 24))) := (below_step HAc.out Ewb.out.drew (by omega)).alloc (by omega) _
              have zwe : wc.heap.size + 1 ≤ (wc.alloc (.cells #[.bool He, .int .i64 Se] 24)).heap.size := by simp
              generalize (wc.alloc (.cells #[.bool He, .int .i64 Se] 24)) = we at *
              clear ms0 ms1 msl nn0 nn1 xs0 xs1 xsl nx0 nx1 Bc Lc HAc
              have es0 := (N3.out.2 0 _ rfl).1; have es1 := (N3.out.2 1 _ rfl).1; have esl := N3.out.lt
              have xs0 := (Bx3.out.2 0 _ rfl).1; have xs1 := (Bx3.out.2 1 _ rfl).1; have xsl := Bx3.out.lt
              have hfl : nf ≤ 100 := by have := f3.out.len; omega
              have hgl : ng ≤ 100 := by have := h3.out.len; omega
              go_wp2_with fail
              refine (to_listN (join_any f3.out h3.out (by omega) (by omega) (by omega) (by omega)) C3.out).mono ?_
              rintro e wf ⟨Aj, nj, cj, rfl, hcj, hb, hl⟩
              have Ewf : Hid (Below w9.heap.size w9 wf) := below_step hb Ewe.out (by omega)
              have l4 := Lib.hid (l3.out.below hb (by omega))
              have j4 := Lib.hid hl
              have zf := hb.size
              clear hb hl es0 es1 xs0 xs1
              go_wp2_with fail
              refine (equalInts_same j4.out l4.out rfl).mono ?_
              rintro e wg ⟨rfl, hb⟩
              have Ewg : Hid (Below w9.heap.size w9 wg) := below_step hb Ewf.out (by omega)
              clear hb
              go_wp2
              go_roundw
              case rel => exact ⟨k + 1, by omega, by go_num, Ewg⟩
              case measure => first | (simp [intOf]; done) | (simp [intOf]; omega)
            · skip
              have l3 := Lib.hid ((((l2.out.alloc (by omega) (.cells #[.bool false, .int .i64 0] 24)).drew.below HAc.out (by omega)).set_ (b := wb.heap.size) (o := 0) (by omega) (.bool He)).set_ (b := wb.heap.size) (o := 1) (by omega) (.int .i64 Se))
              have f3 := Lib.hid ((((f2.out.alloc (by omega) (.cells #[.bool false, .int .i64 0] 24)).drew.below HAc.out (by omega)).set_ (b := wb.heap.size) (o := 0) (by omega) (.bool He)).set_ (b := wb.heap.size) (o := 1) (by omega) (.int .i64 Se))
              have h3 := Lib.hid ((Lc.out.set_ (b := wb.heap.size) (o := 0) (by omega) (.bool He)).set_ (b := wb.heap.size) (o := 1) (by omega) (.int .i64 Se))
              have Bx3 := Lib.hid ((((Bx2.out.alloc (.cells #[.bool false, .int .i64 0] 24)).drew.below HAc.out (by omega)).set_ (b' := wb.heap.size) (o := 0) (by omega) (.bool He)).set_ (b' := wb.heap.size) (o := 1) (by omega) (.int .i64 Se))
              have N3 : Hid (Box ((wc.setCell ⟨wb.heap.size, 0, none⟩ (.bool He)).setCell ⟨wb.heap.size, 1, none⟩ (.int .i64 Se)) wb.heap.size [.bool He, .int .i64 Se]) := by show Box _ _ _; have hx := (BN.out.put (i := 0) (by simp) (.bool He)).put (i := 1) (by simp) (.int .i64 Se); simpa using hx
              have Ewe : Hid (Below w9.heap.size w9 ((wc.setCell ⟨wb.heap.size, 0, none⟩ (.bool He)).setCell ⟨wb.heap.size, 1, none⟩ (.int .i64 Se))) := by show Below _ _ _; (repeat (with_reducible refine below_set ?_ (by omega) _)); exact below_step HAc.out (Ewb.out.alloc (by omega) _).drew (by omega)
              have zwe : wc.heap.size + 0 ≤ ((wc.setCell ⟨wb.heap.size, 0, none⟩ (.bool He)).setCell ⟨wb.heap.size, 1, none⟩ (.int .i64 Se)).heap.size := by simp
              generalize ((wc.setCell ⟨wb.heap.size, 0, none⟩ (.bool He)).setCell ⟨wb.heap.size, 1, none⟩ (.int .i64 Se)) = we at *
              clear ms0 ms1 msl nn0 nn1 xs0 xs1 xsl nx0 nx1 Bc Lc HAc BN n0 n1 nf0 nf1
              have es0 := (N3.out.2 0 _ rfl).1; have es1 := (N3.out.2 1 _ rfl).1; have esl := N3.out.lt
              have xs0 := (Bx3.out.2 0 _ rfl).1; have xs1 := (Bx3.out.2 1 _ rfl).1; have xsl := Bx3.out.lt
              have hfl : nf ≤ 100 := by have := f3.out.len; omega
              have hgl : ng ≤ 100 := by have := h3.out.len; omega
              go_wp2_with fail
              refine (to_listN (join_any f3.out h3.out (by omega) (by omega) (by omega) (by omega)) C3.out).mono ?_
              rintro e wf ⟨Aj, nj, cj, rfl, hcj, hb, hl⟩
              have Ewf : Hid (Below w9.heap.size w9 wf) := below_step hb Ewe.out (by omega)
              have l4 := Lib.hid (l3.out.below hb (by omega))
              have j4 := Lib.hid hl
              have zf := hb.size
              clear hb hl es0 es1 xs0 xs1
              go_wp2_with fail
              refine (equalInts_same j4.out l4.out rfl).mono ?_
              rintro e wg ⟨rfl, hb⟩
              have Ewg : Hid (Below w9.heap.size w9 wg) := below_step hb Ewf.out (by omega)
              clear hb
              go_wp2
              go_roundw
              case rel => exact ⟨k + 1, by omega, by go_num, Ewg⟩
              case measure => first | (simp [intOf]; done) | (simp [intOf]; omega)
          · skip
            have hck : ¬ cd = k := by omega
            go_wp2_with fail
            go_region_held3 (fun w' => w'.cell? ⟨wa.heap.size, 0, none⟩ = some (.bool Hh) ∧ w'.cell? ⟨wa.heap.size, 1, none⟩ = some (.int .i64 Sh)) (go_keep)
              (first | (go_at_call 12; (with_reducible refine (to_nl (NewlineIn_any (d2.out.drew.goneN (Nat.le_refl _) _) (by first | omega | (simp; omega) | (simp; done)) (by omega) hso1) C1.out C2.out HR2.out).mono ?_); rintro e wc ⟨Ag, ng, cg, rfl, hcg, hb, hl⟩; (try simp only [World.size_alloc, World.size_setCell, World.size_drew] at hb hl); have HAc := Lib.hid hb; have sac := hb.size; (try simp only [World.size_alloc, World.size_setCell, World.size_drew] at sac); have Lc := Lib.hid hl; have Bc := Lib.hid (M2.out.drew.below hb (by omega)); clear hb hl; have ms0 := (Bc.out.2 0 _ rfl).1; have ms1 := (Bc.out.2 1 _ rfl).1) | (go_at_call 12; (with_reducible refine (to_nl (NewlineIn_any ((d2.out.alloc (by omega) (.cells #[.bool false, .int .i64 0] 24)).drew.goneN (Nat.le_refl _) _) (by first | omega | (simp; omega) | (simp; done)) (by omega) hso1) C1.out C2.out HR2.out).mono ?_); rintro e wc ⟨Ag, ng, cg, rfl, hcg, hb, hl⟩; (try simp only [World.size_alloc, World.size_setCell, World.size_drew] at hb hl); have HAc := Lib.hid hb; have sac := hb.size; (try simp only [World.size_alloc, World.size_setCell, World.size_drew] at sac); have Lc := Lib.hid hl; have Bc := Lib.hid ((M2.out.alloc (.cells #[.bool false, .int .i64 0] 24)).drew.below hb (by omega)); have BN := Lib.hid ((Box.new wb 24 [.bool false, .int .i64 0]).drew.below hb (by simp)); have n0 := (BN.out.2 0 _ rfl).1; have n1 := (BN.out.2 1 _ rfl).1; have nf0 := (BN.out.2 0 _ rfl).2; have nf1 := (BN.out.2 1 _ rfl).2; clear hb hl; have ms0 := (Bc.out.2 0 _ rfl).1; have ms1 := (Bc.out.2 1 _ rfl).1) | fail)
            · skip
              have l3 := Lib.hid ((l2.out.drew.below HAc.out (by omega)).alloc (by omega) (.cells #[.bool He, .int .i64 Se] 24))
              have f3 := Lib.hid ((f2.out.drew.below HAc.out (by omega)).alloc (by omega) (.cells #[.bool He, .int .i64 Se] 24))
              have h3 := Lib.hid (Lc.out.alloc (by omega) (.cells #[.bool He, .int .i64 Se] 24))
              have Bx3 := Lib.hid ((Bx2.out.drew.below HAc.out (by omega)).alloc (.cells #[.bool He, .int .i64 Se] 24))
              have N3 : Hid (Box (wc.alloc (.cells #[.bool He, .int .i64 Se] 24)) wc.heap.size [.bool He, .int .i64 Se]) := Box.new wc 24 [.bool He, .int .i64 Se]
              have Ewe : Hid (Below w9.heap.size w9 (wc.alloc (.cells #[.bool He, .int .i64 Se] 24))) := (below_step HAc.out Ewb.out.drew (by omega)).alloc (by omega) _
              have zwe : wc.heap.size + 1 ≤ (wc.alloc (.cells #[.bool He, .int .i64 Se] 24)).heap.size := by simp
              generalize (wc.alloc (.cells #[.bool He, .int .i64 Se] 24)) = we at *
              clear ms0 ms1 msl nn0 nn1 xs0 xs1 xsl nx0 nx1 Bc Lc HAc
              have es0 := (N3.out.2 0 _ rfl).1; have es1 := (N3.out.2 1 _ rfl).1; have esl := N3.out.lt
              have xs0 := (Bx3.out.2 0 _ rfl).1; have xs1 := (Bx3.out.2 1 _ rfl).1; have xsl := Bx3.out.lt
              have hfl : nf ≤ 100 := by have := f3.out.len; omega
              have hgl : ng ≤ 100 := by have := h3.out.len; omega
              go_wp2_with fail
              refine (to_listN (join_any f3.out h3.out (by omega) (by omega) (by omega) (by omega)) C3.out).mono ?_
              rintro e wf ⟨Aj, nj, cj, rfl, hcj, hb, hl⟩
              have Ewf : Hid (Below w9.heap.size w9 wf) := below_step hb Ewe.out (by omega)
              have l4 := Lib.hid (l3.out.below hb (by omega))
              have j4 := Lib.hid hl
              have zf := hb.size
              clear hb hl es0 es1 xs0 xs1
              go_wp2_with fail
              refine (equalInts_same j4.out l4.out rfl).mono ?_
              rintro e wg ⟨rfl, hb⟩
              have Ewg : Hid (Below w9.heap.size w9 wg) := below_step hb Ewf.out (by omega)
              clear hb
              go_wp2
              go_roundw
              case rel => exact ⟨k + 1, by omega, by go_num, Ewg⟩
              case measure => first | (simp [intOf]; done) | (simp [intOf]; omega)
            · skip
              have l3 := Lib.hid ((((l2.out.alloc (by omega) (.cells #[.bool false, .int .i64 0] 24)).drew.below HAc.out (by omega)).set_ (b := wb.heap.size) (o := 0) (by omega) (.bool He)).set_ (b := wb.heap.size) (o := 1) (by omega) (.int .i64 Se))
              have f3 := Lib.hid ((((f2.out.alloc (by omega) (.cells #[.bool false, .int .i64 0] 24)).drew.below HAc.out (by omega)).set_ (b := wb.heap.size) (o := 0) (by omega) (.bool He)).set_ (b := wb.heap.size) (o := 1) (by omega) (.int .i64 Se))
              have h3 := Lib.hid ((Lc.out.set_ (b := wb.heap.size) (o := 0) (by omega) (.bool He)).set_ (b := wb.heap.size) (o := 1) (by omega) (.int .i64 Se))
              have Bx3 := Lib.hid ((((Bx2.out.alloc (.cells #[.bool false, .int .i64 0] 24)).drew.below HAc.out (by omega)).set_ (b' := wb.heap.size) (o := 0) (by omega) (.bool He)).set_ (b' := wb.heap.size) (o := 1) (by omega) (.int .i64 Se))
              have N3 : Hid (Box ((wc.setCell ⟨wb.heap.size, 0, none⟩ (.bool He)).setCell ⟨wb.heap.size, 1, none⟩ (.int .i64 Se)) wb.heap.size [.bool He, .int .i64 Se]) := by show Box _ _ _; have hx := (BN.out.put (i := 0) (by simp) (.bool He)).put (i := 1) (by simp) (.int .i64 Se); simpa using hx
              have Ewe : Hid (Below w9.heap.size w9 ((wc.setCell ⟨wb.heap.size, 0, none⟩ (.bool He)).setCell ⟨wb.heap.size, 1, none⟩ (.int .i64 Se))) := by show Below _ _ _; (repeat (with_reducible refine below_set ?_ (by omega) _)); exact below_step HAc.out (Ewb.out.alloc (by omega) _).drew (by omega)
              have zwe : wc.heap.size + 0 ≤ ((wc.setCell ⟨wb.heap.size, 0, none⟩ (.bool He)).setCell ⟨wb.heap.size, 1, none⟩ (.int .i64 Se)).heap.size := by simp
              generalize ((wc.setCell ⟨wb.heap.size, 0, none⟩ (.bool He)).setCell ⟨wb.heap.size, 1, none⟩ (.int .i64 Se)) = we at *
              clear ms0 ms1 msl nn0 nn1 xs0 xs1 xsl nx0 nx1 Bc Lc HAc BN n0 n1 nf0 nf1
              have es0 := (N3.out.2 0 _ rfl).1; have es1 := (N3.out.2 1 _ rfl).1; have esl := N3.out.lt
              have xs0 := (Bx3.out.2 0 _ rfl).1; have xs1 := (Bx3.out.2 1 _ rfl).1; have xsl := Bx3.out.lt
              have hfl : nf ≤ 100 := by have := f3.out.len; omega
              have hgl : ng ≤ 100 := by have := h3.out.len; omega
              go_wp2_with fail
              refine (to_listN (join_any f3.out h3.out (by omega) (by omega) (by omega) (by omega)) C3.out).mono ?_
              rintro e wf ⟨Aj, nj, cj, rfl, hcj, hb, hl⟩
              have Ewf : Hid (Below w9.heap.size w9 wf) := below_step hb Ewe.out (by omega)
              have l4 := Lib.hid (l3.out.below hb (by omega))
              have j4 := Lib.hid hl
              have zf := hb.size
              clear hb hl es0 es1 xs0 xs1
              go_wp2_with fail
              refine (equalInts_same j4.out l4.out rfl).mono ?_
              rintro e wg ⟨rfl, hb⟩
              have Ewg : Hid (Below w9.heap.size w9 wg) := below_step hb Ewf.out (by omega)
              clear hb
              go_wp2
              go_roundw
              case rel => exact ⟨k + 1, by omega, by go_num, Ewg⟩
              case measure => first | (simp [intOf]; done) | (simp [intOf]; omega)
        · skip
          have d2 := Lib.hid ((((d1r.out.alloc (by omega) (.cells #[.bool false, .int .i64 0] 24)).drew.below HAa.out (by omega)).set_ (b := wr.heap.size) (o := 0) (by omega) (.bool Hh)).set_ (b := wr.heap.size) (o := 1) (by omega) (.int .i64 Sh))
          have l2 := Lib.hid ((((l1r.out.alloc (by omega) (.cells #[.bool false, .int .i64 0] 24)).drew.below HAa.out (by omega)).set_ (b := wr.heap.size) (o := 0) (by omega) (.bool Hh)).set_ (b := wr.heap.size) (o := 1) (by omega) (.int .i64 Sh))
          have f2 := Lib.hid ((La.out.set_ (b := wr.heap.size) (o := 0) (by omega) (.bool Hh)).set_ (b := wr.heap.size) (o := 1) (by omega) (.int .i64 Sh))
          have Bx2 := Lib.hid ((((Bxr.out.alloc (.cells #[.bool false, .int .i64 0] 24)).drew.below HAa.out (by omega)).set_ (b' := wr.heap.size) (o := 0) (by omega) (.bool Hh)).set_ (b' := wr.heap.size) (o := 1) (by omega) (.int .i64 Sh))
          have M2 : Hid (Box ((wa.setCell ⟨wr.heap.size, 0, none⟩ (.bool Hh)).setCell ⟨wr.heap.size, 1, none⟩ (.int .i64 Sh)) wr.heap.size [.bool Hh, .int .i64 Sh]) := by show Box _ _ _; have hx := (BN.out.put (i := 0) (by simp) (.bool Hh)).put (i := 1) (by simp) (.int .i64 Sh); simpa using hx
          have Ewb : Hid (Below w9.heap.size w9 ((wa.setCell ⟨wr.heap.size, 0, none⟩ (.bool Hh)).setCell ⟨wr.heap.size, 1, none⟩ (.int .i64 Sh))) := by show Below _ _ _; (repeat (with_reducible refine below_set ?_ (by omega) _)); exact below_step HAa.out (HBR.out.alloc (by omega) _).drew (by omega)
          have zwb : wa.heap.size + 0 ≤ ((wa.setCell ⟨wr.heap.size, 0, none⟩ (.bool Hh)).setCell ⟨wr.heap.size, 1, none⟩ (.int .i64 Sh)).heap.size := by simp
          generalize ((wa.setCell ⟨wr.heap.size, 0, none⟩ (.bool Hh)).setCell ⟨wr.heap.size, 1, none⟩ (.int .i64 Sh)) = wb at *
          clear gs0 gs1 gsl nn0 nn1 Ba La HAa BN n0 n1 nf0 nf1
          have ms0 := (M2.out.2 0 _ rfl).1; have ms1 := (M2.out.2 1 _ rfl).1; have msl := M2.out.lt
          have nn0 := World.new_ne wb _ ms0; have nn1 := World.new_ne wb _ ms1
          have xs0 := (Bx2.out.2 0 _ rfl).1; have xs1 := (Bx2.out.2 1 _ rfl).1; have xsl := Bx2.out.lt
          have nx0 := World.new_ne wb _ xs0; have nx1 := World.new_ne wb _ xs1
          rcases (by omega : k < nd ∨ (k = nd ∧ cd = nd) ∨ (k = nd ∧ nd < cd)) with hq | ⟨rfl, hcq⟩ | ⟨rfl, hq⟩
          · skip
            have hck : ¬ cd = k := by omega
            go_wp2_with fail
            go_region_held3 (fun w' => w'.cell? ⟨wr.heap.size, 0, none⟩ = some (.bool Hh) ∧ w'.cell? ⟨wr.heap.size, 1, none⟩ = some (.int .i64 Sh)) (go_keep)
              (first | (go_at_call 12; (with_reducible refine (to_nl (NewlineIn_any (d2.out.drew.drop hkn) (by first | omega | (simp; omega) | (simp; done)) (by omega) hso1) C1.out C2.out HR2.out).mono ?_); rintro e wc ⟨Ag, ng, cg, rfl, hcg, hb, hl⟩; (try simp only [World.size_alloc, World.size_setCell, World.size_drew] at hb hl); have HAc := Lib.hid hb; have sac := hb.size; (try simp only [World.size_alloc, World.size_setCell, World.size_drew] at sac); have Lc := Lib.hid hl; have Bc := Lib.hid (M2.out.drew.below hb (by omega)); clear hb hl; have ms0 := (Bc.out.2 0 _ rfl).1; have ms1 := (Bc.out.2 1 _ rfl).1) | (go_at_call 12; (with_reducible refine (to_nl (NewlineIn_any ((d2.out.alloc (by omega) (.cells #[.bool false, .int .i64 0] 24)).drew.drop hkn) (by first | omega | (simp; omega) | (simp; done)) (by omega) hso1) C1.out C2.out HR2.out).mono ?_); rintro e wc ⟨Ag, ng, cg, rfl, hcg, hb, hl⟩; (try simp only [World.size_alloc, World.size_setCell, World.size_drew] at hb hl); have HAc := Lib.hid hb; have sac := hb.size; (try simp only [World.size_alloc, World.size_setCell, World.size_drew] at sac); have Lc := Lib.hid hl; have Bc := Lib.hid ((M2.out.alloc (.cells #[.bool false, .int .i64 0] 24)).drew.below hb (by omega)); have BN := Lib.hid ((Box.new wb 24 [.bool false, .int .i64 0]).drew.below hb (by simp)); have n0 := (BN.out.2 0 _ rfl).1; have n1 := (BN.out.2 1 _ rfl).1; have nf0 := (BN.out.2 0 _ rfl).2; have nf1 := (BN.out.2 1 _ rfl).2; clear hb hl; have ms0 := (Bc.out.2 0 _ rfl).1; have ms1 := (Bc.out.2 1 _ rfl).1) | fail)
            · skip
              have l3 := Lib.hid ((l2.out.drew.below HAc.out (by omega)).alloc (by omega) (.cells #[.bool He, .int .i64 Se] 24))
              have f3 := Lib.hid ((f2.out.drew.below HAc.out (by omega)).alloc (by omega) (.cells #[.bool He, .int .i64 Se] 24))
              have h3 := Lib.hid (Lc.out.alloc (by omega) (.cells #[.bool He, .int .i64 Se] 24))
              have Bx3 := Lib.hid ((Bx2.out.drew.below HAc.out (by omega)).alloc (.cells #[.bool He, .int .i64 Se] 24))
              have N3 : Hid (Box (wc.alloc (.cells #[.bool He, .int .i64 Se] 24)) wc.heap.size [.bool He, .int .i64 Se]) := Box.new wc 24 [.bool He, .int .i64 Se]
              have Ewe : Hid (Below w9.heap.size w9 (wc.alloc (.cells #[.bool He, .int .i64 Se] 24))) := (below_step HAc.out Ewb.out.drew (by omega)).alloc (by omega) _
              have zwe : wc.heap.size + 1 ≤ (wc.alloc (.cells #[.bool He, .int .i64 Se] 24)).heap.size := by simp
              generalize (wc.alloc (.cells #[.bool He, .int .i64 Se] 24)) = we at *
              clear ms0 ms1 msl nn0 nn1 xs0 xs1 xsl nx0 nx1 Bc Lc HAc
              have es0 := (N3.out.2 0 _ rfl).1; have es1 := (N3.out.2 1 _ rfl).1; have esl := N3.out.lt
              have xs0 := (Bx3.out.2 0 _ rfl).1; have xs1 := (Bx3.out.2 1 _ rfl).1; have xsl := Bx3.out.lt
              have hfl : nf ≤ 100 := by have := f3.out.len; omega
              have hgl : ng ≤ 100 := by have := h3.out.len; omega
              go_wp2_with fail
              refine (to_listN (join_any f3.out h3.out (by omega) (by omega) (by omega) (by omega)) C3.out).mono ?_
              rintro e wf ⟨Aj, nj, cj, rfl, hcj, hb, hl⟩
              have Ewf : Hid (Below w9.heap.size w9 wf) := below_step hb Ewe.out (by omega)
              have l4 := Lib.hid (l3.out.below hb (by omega))
              have j4 := Lib.hid hl
              have zf := hb.size
              clear hb hl es0 es1 xs0 xs1
              go_wp2_with fail
              refine (equalInts_same j4.out l4.out rfl).mono ?_
              rintro e wg ⟨rfl, hb⟩
              have Ewg : Hid (Below w9.heap.size w9 wg) := below_step hb Ewf.out (by omega)
              clear hb
              go_wp2
              go_roundw
              case rel => exact ⟨k + 1, by omega, by go_num, Ewg⟩
              case measure => first | (simp [intOf]; done) | (simp [intOf]; omega)
            · skip
              have l3 := Lib.hid ((((l2.out.alloc (by omega) (.cells #[.bool false, .int .i64 0] 24)).drew.below HAc.out (by omega)).set_ (b := wb.heap.size) (o := 0) (by omega) (.bool He)).set_ (b := wb.heap.size) (o := 1) (by omega) (.int .i64 Se))
              have f3 := Lib.hid ((((f2.out.alloc (by omega) (.cells #[.bool false, .int .i64 0] 24)).drew.below HAc.out (by omega)).set_ (b := wb.heap.size) (o := 0) (by omega) (.bool He)).set_ (b := wb.heap.size) (o := 1) (by omega) (.int .i64 Se))
              have h3 := Lib.hid ((Lc.out.set_ (b := wb.heap.size) (o := 0) (by omega) (.bool He)).set_ (b := wb.heap.size) (o := 1) (by omega) (.int .i64 Se))
              have Bx3 := Lib.hid ((((Bx2.out.alloc (.cells #[.bool false, .int .i64 0] 24)).drew.below HAc.out (by omega)).set_ (b' := wb.heap.size) (o := 0) (by omega) (.bool He)).set_ (b' := wb.heap.size) (o := 1) (by omega) (.int .i64 Se))
              have N3 : Hid (Box ((wc.setCell ⟨wb.heap.size, 0, none⟩ (.bool He)).setCell ⟨wb.heap.size, 1, none⟩ (.int .i64 Se)) wb.heap.size [.bool He, .int .i64 Se]) := by show Box _ _ _; have hx := (BN.out.put (i := 0) (by simp) (.bool He)).put (i := 1) (by simp) (.int .i64 Se); simpa using hx
              have Ewe : Hid (Below w9.heap.size w9 ((wc.setCell ⟨wb.heap.size, 0, none⟩ (.bool He)).setCell ⟨wb.heap.size, 1, none⟩ (.int .i64 Se))) := by show Below _ _ _; (repeat (with_reducible refine below_set ?_ (by omega) _)); exact below_step HAc.out (Ewb.out.alloc (by omega) _).drew (by omega)
              have zwe : wc.heap.size + 0 ≤ ((wc.setCell ⟨wb.heap.size, 0, none⟩ (.bool He)).setCell ⟨wb.heap.size, 1, none⟩ (.int .i64 Se)).heap.size := by simp
              generalize ((wc.setCell ⟨wb.heap.size, 0, none⟩ (.bool He)).setCell ⟨wb.heap.size, 1, none⟩ (.int .i64 Se)) = we at *
              clear ms0 ms1 msl nn0 nn1 xs0 xs1 xsl nx0 nx1 Bc Lc HAc BN n0 n1 nf0 nf1
              have es0 := (N3.out.2 0 _ rfl).1; have es1 := (N3.out.2 1 _ rfl).1; have esl := N3.out.lt
              have xs0 := (Bx3.out.2 0 _ rfl).1; have xs1 := (Bx3.out.2 1 _ rfl).1; have xsl := Bx3.out.lt
              have hfl : nf ≤ 100 := by have := f3.out.len; omega
              have hgl : ng ≤ 100 := by have := h3.out.len; omega
              go_wp2_with fail
              refine (to_listN (join_any f3.out h3.out (by omega) (by omega) (by omega) (by omega)) C3.out).mono ?_
              rintro e wf ⟨Aj, nj, cj, rfl, hcj, hb, hl⟩
              have Ewf : Hid (Below w9.heap.size w9 wf) := below_step hb Ewe.out (by omega)
              have l4 := Lib.hid (l3.out.below hb (by omega))
              have j4 := Lib.hid hl
              have zf := hb.size
              clear hb hl es0 es1 xs0 xs1
              go_wp2_with fail
              refine (equalInts_same j4.out l4.out rfl).mono ?_
              rintro e wg ⟨rfl, hb⟩
              have Ewg : Hid (Below w9.heap.size w9 wg) := below_step hb Ewf.out (by omega)
              clear hb
              go_wp2
              go_roundw
              case rel => exact ⟨k + 1, by omega, by go_num, Ewg⟩
              case measure => first | (simp [intOf]; done) | (simp [intOf]; omega)
          · skip
            have hcq2 := hcq.symm
            subst hcq2
            go_wp2_with fail
            go_region_held3 (fun w' => w'.cell? ⟨wr.heap.size, 0, none⟩ = some (.bool Hh) ∧ w'.cell? ⟨wr.heap.size, 1, none⟩ = some (.int .i64 Sh)) (go_keep)
              (first | (go_at_call 12; (with_reducible refine (to_nl (NewlineIn_any (d2.out.drew.goneN (Nat.le_refl _) _) (by first | omega | (simp; omega) | (simp; done)) (by omega) hso1) C1.out C2.out HR2.out).mono ?_); rintro e wc ⟨Ag, ng, cg, rfl, hcg, hb, hl⟩; (try simp only [World.size_alloc, World.size_setCell, World.size_drew] at hb hl); have HAc := Lib.hid hb; have sac := hb.size; (try simp only [World.size_alloc, World.size_setCell, World.size_drew] at sac); have Lc := Lib.hid hl; have Bc := Lib.hid (M2.out.drew.below hb (by omega)); clear hb hl; have ms0 := (Bc.out.2 0 _ rfl).1; have ms1 := (Bc.out.2 1 _ rfl).1) | (go_at_call 12; (with_reducible refine (to_nl (NewlineIn_any ((d2.out.alloc (by omega) (.cells #[.bool false, .int .i64 0] 24)).drew.goneN (Nat.le_refl _) _) (by first | omega | (simp; omega) | (simp; done)) (by omega) hso1) C1.out C2.out HR2.out).mono ?_); rintro e wc ⟨Ag, ng, cg, rfl, hcg, hb, hl⟩; (try simp only [World.size_alloc, World.size_setCell, World.size_drew] at hb hl); have HAc := Lib.hid hb; have sac := hb.size; (try simp only [World.size_alloc, World.size_setCell, World.size_drew] at sac); have Lc := Lib.hid hl; have Bc := Lib.hid ((M2.out.alloc (.cells #[.bool false, .int .i64 0] 24)).drew.below hb (by omega)); have BN := Lib.hid ((Box.new wb 24 [.bool false, .int .i64 0]).drew.below hb (by simp)); have n0 := (BN.out.2 0 _ rfl).1; have n1 := (BN.out.2 1 _ rfl).1; have nf0 := (BN.out.2 0 _ rfl).2; have nf1 := (BN.out.2 1 _ rfl).2; clear hb hl; have ms0 := (Bc.out.2 0 _ rfl).1; have ms1 := (Bc.out.2 1 _ rfl).1) | fail)
            · skip
              have l3 := Lib.hid ((l2.out.drew.below HAc.out (by omega)).alloc (by omega) (.cells #[.bool He, .int .i64 Se] 24))
              have f3 := Lib.hid ((f2.out.drew.below HAc.out (by omega)).alloc (by omega) (.cells #[.bool He, .int .i64 Se] 24))
              have h3 := Lib.hid (Lc.out.alloc (by omega) (.cells #[.bool He, .int .i64 Se] 24))
              have Bx3 := Lib.hid ((Bx2.out.drew.below HAc.out (by omega)).alloc (.cells #[.bool He, .int .i64 Se] 24))
              have N3 : Hid (Box (wc.alloc (.cells #[.bool He, .int .i64 Se] 24)) wc.heap.size [.bool He, .int .i64 Se]) := Box.new wc 24 [.bool He, .int .i64 Se]
              have Ewe : Hid (Below w9.heap.size w9 (wc.alloc (.cells #[.bool He, .int .i64 Se] 24))) := (below_step HAc.out Ewb.out.drew (by omega)).alloc (by omega) _
              have zwe : wc.heap.size + 1 ≤ (wc.alloc (.cells #[.bool He, .int .i64 Se] 24)).heap.size := by simp
              generalize (wc.alloc (.cells #[.bool He, .int .i64 Se] 24)) = we at *
              clear ms0 ms1 msl nn0 nn1 xs0 xs1 xsl nx0 nx1 Bc Lc HAc
              have es0 := (N3.out.2 0 _ rfl).1; have es1 := (N3.out.2 1 _ rfl).1; have esl := N3.out.lt
              have xs0 := (Bx3.out.2 0 _ rfl).1; have xs1 := (Bx3.out.2 1 _ rfl).1; have xsl := Bx3.out.lt
              have hfl : nf ≤ 100 := by have := f3.out.len; omega
              have hgl : ng ≤ 100 := by have := h3.out.len; omega
              go_wp2_with fail
              refine (to_listN (join_any f3.out h3.out (by omega) (by omega) (by omega) (by omega)) C3.out).mono ?_
              rintro e wf ⟨Aj, nj, cj, rfl, hcj, hb, hl⟩
              have Ewf : Hid (Below w9.heap.size w9 wf) := below_step hb Ewe.out (by omega)
              have l4 := Lib.hid (l3.out.below hb (by omega))
              have j4 := Lib.hid hl
              have zf := hb.size
              clear hb hl es0 es1 xs0 xs1
              go_wp2_with fail
              refine (equalInts_same j4.out l4.out rfl).mono ?_
              rintro e wg ⟨rfl, hb⟩
              have Ewg : Hid (Below w9.heap.size w9 wg) := below_step hb Ewf.out (by omega)
              clear hb
              go_wp2
              go_roundw
              case rel => exact ⟨k + 1, by omega, by go_num, Ewg⟩
              case measure => first | (simp [intOf]; done) | (simp [intOf]; omega)
            · skip
              have l3 := Lib.hid ((((l2.out.alloc (by omega) (.cells #[.bool false, .int .i64 0] 24)).drew.below HAc.out (by omega)).set_ (b := wb.heap.size) (o := 0) (by omega) (.bool He)).set_ (b := wb.heap.size) (o := 1) (by omega) (.int .i64 Se))
              have f3 := Lib.hid ((((f2.out.alloc (by omega) (.cells #[.bool false, .int .i64 0] 24)).drew.below HAc.out (by omega)).set_ (b := wb.heap.size) (o := 0) (by omega) (.bool He)).set_ (b := wb.heap.size) (o := 1) (by omega) (.int .i64 Se))
              have h3 := Lib.hid ((Lc.out.set_ (b := wb.heap.size) (o := 0) (by omega) (.bool He)).set_ (b := wb.heap.size) (o := 1) (by omega) (.int .i64 Se))
              have Bx3 := Lib.hid ((((Bx2.out.alloc (.cells #[.bool false, .int .i64 0] 24)).drew.below HAc.out (by omega)).set_ (b' := wb.heap.size) (o := 0) (by omega) (.bool He)).set_ (b' := wb.heap.size) (o := 1) (by omega) (.int .i64 Se))
              have N3 : Hid (Box ((wc.setCell ⟨wb.heap.size, 0, none⟩ (.bool He)).setCell ⟨wb.heap.size, 1, none⟩ (.int .i64 Se)) wb.heap.size [.bool He, .int .i64 Se]) := by show Box _ _ _; have hx := (BN.out.put (i := 0) (by simp) (.bool He)).put (i := 1) (by simp) (.int .i64 Se); simpa using hx
              have Ewe : Hid (Below w9.heap.size w9 ((wc.setCell ⟨wb.heap.size, 0, none⟩ (.bool He)).setCell ⟨wb.heap.size, 1, none⟩ (.int .i64 Se))) := by show Below _ _ _; (repeat (with_reducible refine below_set ?_ (by omega) _)); exact below_step HAc.out (Ewb.out.alloc (by omega) _).drew (by omega)
              have zwe : wc.heap.size + 0 ≤ ((wc.setCell ⟨wb.heap.size, 0, none⟩ (.bool He)).setCell ⟨wb.heap.size, 1, none⟩ (.int .i64 Se)).heap.size := by simp
              generalize ((wc.setCell ⟨wb.heap.size, 0, none⟩ (.bool He)).setCell ⟨wb.heap.size, 1, none⟩ (.int .i64 Se)) = we at *
              clear ms0 ms1 msl nn0 nn1 xs0 xs1 xsl nx0 nx1 Bc Lc HAc BN n0 n1 nf0 nf1
              have es0 := (N3.out.2 0 _ rfl).1; have es1 := (N3.out.2 1 _ rfl).1; have esl := N3.out.lt
              have xs0 := (Bx3.out.2 0 _ rfl).1; have xs1 := (Bx3.out.2 1 _ rfl).1; have xsl := Bx3.out.lt
              have hfl : nf ≤ 100 := by have := f3.out.len; omega
              have hgl : ng ≤ 100 := by have := h3.out.len; omega
              go_wp2_with fail
              refine (to_listN (join_any f3.out h3.out (by omega) (by omega) (by omega) (by omega)) C3.out).mono ?_
              rintro e wf ⟨Aj, nj, cj, rfl, hcj, hb, hl⟩
              have Ewf : Hid (Below w9.heap.size w9 wf) := below_step hb Ewe.out (by omega)
              have l4 := Lib.hid (l3.out.below hb (by omega))
              have j4 := Lib.hid hl
              have zf := hb.size
              clear hb hl es0 es1 xs0 xs1
              go_wp2_with fail
              refine (equalInts_same j4.out l4.out rfl).mono ?_
              rintro e wg ⟨rfl, hb⟩
              have Ewg : Hid (Below w9.heap.size w9 wg) := below_step hb Ewf.out (by omega)
              clear hb
              go_wp2
              go_roundw
              case rel => exact ⟨k + 1, by omega, by go_num, Ewg⟩
              case measure => first | (simp [intOf]; done) | (simp [intOf]; omega)
          · skip
            have hck : ¬ cd = k := by omega
            go_wp2_with fail
            go_region_held3 (fun w' => w'.cell? ⟨wr.heap.size, 0, none⟩ = some (.bool Hh) ∧ w'.cell? ⟨wr.heap.size, 1, none⟩ = some (.int .i64 Sh)) (go_keep)
              (first | (go_at_call 12; (with_reducible refine (to_nl (NewlineIn_any (d2.out.drew.goneN (Nat.le_refl _) _) (by first | omega | (simp; omega) | (simp; done)) (by omega) hso1) C1.out C2.out HR2.out).mono ?_); rintro e wc ⟨Ag, ng, cg, rfl, hcg, hb, hl⟩; (try simp only [World.size_alloc, World.size_setCell, World.size_drew] at hb hl); have HAc := Lib.hid hb; have sac := hb.size; (try simp only [World.size_alloc, World.size_setCell, World.size_drew] at sac); have Lc := Lib.hid hl; have Bc := Lib.hid (M2.out.drew.below hb (by omega)); clear hb hl; have ms0 := (Bc.out.2 0 _ rfl).1; have ms1 := (Bc.out.2 1 _ rfl).1) | (go_at_call 12; (with_reducible refine (to_nl (NewlineIn_any ((d2.out.alloc (by omega) (.cells #[.bool false, .int .i64 0] 24)).drew.goneN (Nat.le_refl _) _) (by first | omega | (simp; omega) | (simp; done)) (by omega) hso1) C1.out C2.out HR2.out).mono ?_); rintro e wc ⟨Ag, ng, cg, rfl, hcg, hb, hl⟩; (try simp only [World.size_alloc, World.size_setCell, World.size_drew] at hb hl); have HAc := Lib.hid hb; have sac := hb.size; (try simp only [World.size_alloc, World.size_setCell, World.size_drew] at sac); have Lc := Lib.hid hl; have Bc := Lib.hid ((M2.out.alloc (.cells #[.bool false, .int .i64 0] 24)).drew.below hb (by omega)); have BN := Lib.hid ((Box.new wb 24 [.bool false, .int .i64 0]).drew.below hb (by simp)); have n0 := (BN.out.2 0 _ rfl).1; have n1 := (BN.out.2 1 _ rfl).1; have nf0 := (BN.out.2 0 _ rfl).2; have nf1 := (BN.out.2 1 _ rfl).2; clear hb hl; have ms0 := (Bc.out.2 0 _ rfl).1; have ms1 := (Bc.out.2 1 _ rfl).1) | fail)
            · skip
              have l3 := Lib.hid ((l2.out.drew.below HAc.out (by omega)).alloc (by omega) (.cells #[.bool He, .int .i64 Se] 24))
              have f3 := Lib.hid ((f2.out.drew.below HAc.out (by omega)).alloc (by omega) (.cells #[.bool He, .int .i64 Se] 24))
              have h3 := Lib.hid (Lc.out.alloc (by omega) (.cells #[.bool He, .int .i64 Se] 24))
              have Bx3 := Lib.hid ((Bx2.out.drew.below HAc.out (by omega)).alloc (.cells #[.bool He, .int .i64 Se] 24))
              have N3 : Hid (Box (wc.alloc (.cells #[.bool He, .int .i64 Se] 24)) wc.heap.size [.bool He, .int .i64 Se]) := Box.new wc 24 [.bool He, .int .i64 Se]
              have Ewe : Hid (Below w9.heap.size w9 (wc.alloc (.cells #[.bool He, .int .i64 Se] 24))) := (below_step HAc.out Ewb.out.drew (by omega)).alloc (by omega) _
              have zwe : wc.heap.size + 1 ≤ (wc.alloc (.cells #[.bool He, .int .i64 Se] 24)).heap.size := by simp
              generalize (wc.alloc (.cells #[.bool He, .int .i64 Se] 24)) = we at *
              clear ms0 ms1 msl nn0 nn1 xs0 xs1 xsl nx0 nx1 Bc Lc HAc
              have es0 := (N3.out.2 0 _ rfl).1; have es1 := (N3.out.2 1 _ rfl).1; have esl := N3.out.lt
              have xs0 := (Bx3.out.2 0 _ rfl).1; have xs1 := (Bx3.out.2 1 _ rfl).1; have xsl := Bx3.out.lt
              have hfl : nf ≤ 100 := by have := f3.out.len; omega
              have hgl : ng ≤ 100 := by have := h3.out.len; omega
              go_wp2_with fail
              refine (to_listN (join_any f3.out h3.out (by omega) (by omega) (by omega) (by omega)) C3.out).mono ?_
              rintro e wf ⟨Aj, nj, cj, rfl, hcj, hb, hl⟩
              have Ewf : Hid (Below w9.heap.size w9 wf) := below_step hb Ewe.out (by omega)
              have l4 := Lib.hid (l3.out.below hb (by omega))
              have j4 := Lib.hid hl
              have zf := hb.size
              clear hb hl es0 es1 xs0 xs1
              go_wp2_with fail
              refine (equalInts_same j4.out l4.out rfl).mono ?_
              rintro e wg ⟨rfl, hb⟩
              have Ewg : Hid (Below w9.heap.size w9 wg) := below_step hb Ewf.out (by omega)
              clear hb
              go_wp2
              go_roundw
              case rel => exact ⟨k + 1, by omega, by go_num, Ewg⟩
              case measure => first | (simp [intOf]; done) | (simp [intOf]; omega)
            · skip
              have l3 := Lib.hid ((((l2.out.alloc (by omega) (.cells #[.bool false, .int .i64 0] 24)).drew.below HAc.out (by omega)).set_ (b := wb.heap.size) (o := 0) (by omega) (.bool He)).set_ (b := wb.heap.size) (o := 1) (by omega) (.int .i64 Se))
              have f3 := Lib.hid ((((f2.out.alloc (by omega) (.cells #[.bool false, .int .i64 0] 24)).drew.below HAc.out (by omega)).set_ (b := wb.heap.size) (o := 0) (by omega) (.bool He)).set_ (b := wb.heap.size) (o := 1) (by omega) (.int .i64 Se))
              have h3 := Lib.hid ((Lc.out.set_ (b := wb.heap.size) (o := 0) (by omega) (.bool He)).set_ (b := wb.heap.size) (o := 1) (by omega) (.int .i64 Se))
              have Bx3 := Lib.hid ((((Bx2.out.alloc (.cells #[.bool false, .int .i64 0] 24)).drew.below HAc.out (by omega)).set_ (b' := wb.heap.size) (o := 0) (by omega) (.bool He)).set_ (b' := wb.heap.size) (o := 1) (by omega) (.int .i64 Se))
              have N3 : Hid (Box ((wc.setCell ⟨wb.heap.size, 0, none⟩ (.bool He)).setCell ⟨wb.heap.size, 1, none⟩ (.int .i64 Se)) wb.heap.size [.bool He, .int .i64 Se]) := by show Box _ _ _; have hx := (BN.out.put (i := 0) (by simp) (.bool He)).put (i := 1) (by simp) (.int .i64 Se); simpa using hx
              have Ewe : Hid (Below w9.heap.size w9 ((wc.setCell ⟨wb.heap.size, 0, none⟩ (.bool He)).setCell ⟨wb.heap.size, 1, none⟩ (.int .i64 Se))) := by show Below _ _ _; (repeat (with_reducible refine below_set ?_ (by omega) _)); exact below_step HAc.out (Ewb.out.alloc (by omega) _).drew (by omega)
              have zwe : wc.heap.size + 0 ≤ ((wc.setCell ⟨wb.heap.size, 0, none⟩ (.bool He)).setCell ⟨wb.heap.size, 1, none⟩ (.int .i64 Se)).heap.size := by simp
              generalize ((wc.setCell ⟨wb.heap.size, 0, none⟩ (.bool He)).setCell ⟨wb.heap.size, 1, none⟩ (.int .i64 Se)) = we at *
              clear ms0 ms1 msl nn0 nn1 xs0 xs1 xsl nx0 nx1 Bc Lc HAc BN n0 n1 nf0 nf1
              have es0 := (N3.out.2 0 _ rfl).1; have es1 := (N3.out.2 1 _ rfl).1; have esl := N3.out.lt
              have xs0 := (Bx3.out.2 0 _ rfl).1; have xs1 := (Bx3.out.2 1 _ rfl).1; have xsl := Bx3.out.lt
              have hfl : nf ≤ 100 := by have := f3.out.len; omega
              have hgl : ng ≤ 100 := by have := h3.out.len; omega
              go_wp2_with fail
              refine (to_listN (join_any f3.out h3.out (by omega) (by omega) (by omega) (by omega)) C3.out).mono ?_
              rintro e wf ⟨Aj, nj, cj, rfl, hcj, hb, hl⟩
              have Ewf : Hid (Below w9.heap.size w9 wf) := below_step hb Ewe.out (by omega)
              have l4 := Lib.hid (l3.out.below hb (by omega))
              have j4 := Lib.hid hl
              have zf := hb.size
              clear hb hl es0 es1 xs0 xs1
              go_wp2_with fail
              refine (equalInts_same j4.out l4.out rfl).mono ?_
              rintro e wg ⟨rfl, hb⟩
              have Ewg : Hid (Below w9.heap.size w9 wg) := below_step hb Ewf.out (by omega)
              clear hb
              go_wp2
              go_roundw
              case rel => exact ⟨k + 1, by omega, by go_num, Ewg⟩
              case measure => first | (simp [intOf]; done) | (simp [intOf]; omega)
      · go_wp2
        go_ret
        exact ⟨rfl, below_step HBR.out EB.out (by omega)⟩

theorem contract (H : Type) (enc : TypeId × Value → H) (W : World) (base : Nat) (args : Array Value) (ds gs : List (DataW H)) (before : List MemPlace)
    (hval : ∀ (j : Nat) t v, Try.f3.params[j]? = some t → args[j]? = some v → Value.okWide Try.prog W .any base t v)
    (hW : DataW.Whole enc Try.prog Try.f3.params.toList Rows.fnNewlineInSpec.vars false W args.toList ds gs before) :
    Calls Try.prog 3 args W fun e W' => ∃ v, e = .returned v ∧ Rows.fnNewlineInSpec.post enc Try.prog Try.f3 false true false false W args v W' := by
  have hW' := hW
  have hlt : ∀ p ∈ before, p.block < W.heap.size := fun p hp => hW.lt p hp
  obtain ⟨p, q, hA0, hV, rfl, hfz, hnd⟩ := hW
  have hA : DataW.TrodAll enc Try.prog W 0 (fun _ => true) true Try.f3.params.toList args.toList ds p := hA0
  rw [Try.params3] at hA hval
  obtain ⟨v0, vs0, d0, ds0, p0, q0, hargs, rfl, rfl, h0, r0⟩ := trodAll_cons hA
  obtain ⟨rfl, rfl, rfl⟩ := trodAll_nil r0
  obtain rfl : args = #[v0] := by cases args; simp_all
  obtain ⟨rfl, rfl⟩ := trodVars_none hV
  obtain ⟨A, n, c, rfl, hnc, hby, hmx⟩ := arg_bytes (hval 0 _ v0 rfl rfl) h0 (fun p hp => hlt p (by simp [hp]))
  refine (walk A n c W hby hnc hmx).mono fun e W' hh => ?_
  obtain ⟨rfl, hb⟩ := hh
  exact ⟨_, rfl, law_post laidOut (tys_of (by rw [Try.params3]; kernel_rfl)) hW' rfl rfl rfl Try.underlying4 hb⟩

set_option maxRecDepth 100000 in
theorem lifted (os : Os) (started : os.Started) (H : Type) (enc : TypeId × Value → H) :
    ReturnsInHanded {} Try.checked os 3 .any (Rows.fnNewlineInSpec.pre6 enc Try.prog Try.f3 Rows.fnNewlineInRow.domain false) (Rows.fnNewlineInSpec.post enc Try.prog Try.f3 false true false false) := by
  refine returnsInHanded_of_change (C := Try.checked) own started (by kernel_rfl) Try.func3
    (ChangeSpec.witness6 (C := Try.checked) false ⟨#[], #[.slice none 0 0], []⟩ 8 (by kernel_rfl) (by kernel_rfl) (by kernel_rfl) (by kernel_rfl)) ?_
  intro W base args ds gs before hval hW _ _
  exact contract H enc W base args ds gs before hval hW

theorem holds : Rows.FnNewlineInSaid :=
  OpenClaim.holds_of_wide 3 Try.f3 rfl rfl rfl rfl rfl rfl rfl ⟨rfl, rfl, rfl, rfl, rfl⟩ rfl rfl rfl rfl rfl (by kernel_rfl) Try.func3 (by kernel_rfl)
    (of_decide_eq_true (by kernel_rfl)) (by unfold Func.isWrapper; first | (rw [if_pos (by decide +kernel)]; kernel_rfl) | (rw [if_neg (by decide +kernel)]; exact ⟨rfl, rfl⟩))
    (fun os started H enc _ => lifted os started H enc)
end LawNewlineIn
end Go.Proofs.Ytlekbmlacinkdaa
