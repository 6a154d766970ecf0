/- The law of promise 11: the calls to the end of a smooth device are at most one more than the bytes that are ahead, and one less after a call. No conditions. -/
import Derived.Test.YtbphijnhcpcclaaK1
import Derived.Test.YtbphijnhcpcclaaG2
set_option maxRecDepth 10000
namespace Go.Proofs.Ytbphijnhcpcclaa
open Go.ChangeShapes Go.WideShapes Go.ChangeAt Go.RowKit
set_option linter.unusedSimpArgs false
set_option linter.unusedVariables false
namespace LawCallsToEnd
set_option maxHeartbeats 8000000 in
theorem walk (A : Option Addr) (n c : Nat) (w : World) (h : BytesIn w w.heap.size A n) (hnc : n ≤ c) (hm : n ≤ 9223372036854775807) :
    Calls Try.prog 7 #[.slice A n c] w (BoolB true w) := by
  have HBY := Lib.hid h
  clear h
  have EB := Lib.hid (Below.refl w.heap.size w)
  by_cases hbig : (1048576 : Int) < (n : Int)
  · go_enter Try.func7, Try.ntmps7
    go_wp2
    go_ret
    exact ⟨rfl, Below.refl _ _⟩
  go_enter Try.func7, Try.ntmps7
  go_wp2_with fail
  refine (DrawCallsToEnd_any HBY.out (by omega) hnc).mono ?_
  rintro e w1 ⟨Ad, nd, cd, Ad', nd', cd', Dd, Sd, pd, qd, zn, rfl, ⟨⟨hcd, hcd'⟩, hb, hd, hd', ⟨hnd, hnd'⟩, hpd, hqd⟩, hzn⟩
  (try simp only [World.size_alloc, World.size_setCell, World.size_drew] at hb)
  have HB := Lib.hid hb
  clear hb
  have s1 := HB.out.size
  (try simp only [World.size_alloc, World.size_setCell, World.size_drew] at s1)
  replace EB := Lib.hid (below_step HB.out EB.out (by omega))
  clear HB
  have d1 := Lib.hid hd
  have d2 := Lib.hid hd'
  clear hd hd' HBY
  go_wp2_with fail
  replace d1 := Lib.hid (d1.out.alloc (by omega) (.cells #[.slice Ad nd cd, .int .i64 (pd), .slice Ad' nd' cd', .int .i64 (qd)] 27))
  replace d2 := Lib.hid (d2.out.alloc (by omega) (.cells #[.slice Ad nd cd, .int .i64 (pd), .slice Ad' nd' cd', .int .i64 (qd)] 27))
  replace EB := Lib.hid (EB.out.alloc (by omega) (.cells #[.slice Ad nd cd, .int .i64 (pd), .slice Ad' nd' cd', .int .i64 (qd)] 27))
  have Bd := Lib.hid (Box.new w1 27 [.slice Ad nd cd, .int .i64 (pd), .slice Ad' nd' cd', .int .i64 (qd)])
  have s2 : w1.heap.size + 1 ≤ (w1.alloc (.cells #[.slice Ad nd cd, .int .i64 (pd), .slice Ad' nd' cd', .int .i64 (qd)] 27)).heap.size := by simp
  generalize w1.alloc (.cells #[.slice Ad nd cd, .int .i64 (pd), .slice Ad' nd' cd', .int .i64 (qd)] 27) = w2 at *
  obtain ⟨ct, hct⟩ : ∃ ct, ctOut Dd pd Sd qd zn = ct := ⟨_, rfl⟩
  refine (to_int (CallsToEnd_x d1.out d2.out (by omega) (by omega) (by unfold okInt; omega)) hct).mono ?_
  rintro e w3 ⟨rfl, hb⟩
  (try simp only [World.size_alloc, World.size_setCell, World.size_drew] at hb)
  have HB := Lib.hid hb
  clear hb
  have s3 := HB.out.size
  (try simp only [World.size_alloc, World.size_setCell, World.size_drew] at s3)
  replace d1 := Lib.hid (d1.out.below HB.out (by omega))
  replace d2 := Lib.hid (d2.out.below HB.out (by omega))
  replace Bd := Lib.hid (Bd.out.below HB.out (by omega))
  replace EB := Lib.hid (below_step HB.out EB.out (by omega))
  clear HB
  have vdl := Bd.out.lt
  have vd0 := (Bd.out.2 0 _ rfl).1
  have vd1 := (Bd.out.2 1 _ rfl).1
  have vd2 := (Bd.out.2 2 _ rfl).1
  have vd3 := (Bd.out.2 3 _ rfl).1
  go_wp2_with fail
  refine (to_int (SCallsToEnd_x d1.out d2.out (by omega) (by omega) (by unfold okInt; omega)) hct).mono ?_
  clear vdl vd0 vd1 vd2 vd3
  rintro e w4 ⟨rfl, hb⟩
  (try simp only [World.size_alloc, World.size_setCell, World.size_drew] at hb)
  have HB := Lib.hid hb
  clear hb
  have s4 := HB.out.size
  (try simp only [World.size_alloc, World.size_setCell, World.size_drew] at s4)
  replace d1 := Lib.hid (d1.out.below HB.out (by omega))
  replace d2 := Lib.hid (d2.out.below HB.out (by omega))
  replace Bd := Lib.hid (Bd.out.below HB.out (by omega))
  replace EB := Lib.hid (below_step HB.out EB.out (by omega))
  clear HB
  by_cases hneg : ct < 0
  · have vdl := Bd.out.lt
    have vd0 := (Bd.out.2 0 _ rfl).1
    have vd1 := (Bd.out.2 1 _ rfl).1
    have vd2 := (Bd.out.2 2 _ rfl).1
    have vd3 := (Bd.out.2 3 _ rfl).1
    go_wp2_with fail
    refine (to_int (SCallsToEnd_x d1.out d2.out (by omega) (by omega) (by unfold okInt; omega)) hct).mono ?_
    clear vdl vd0 vd1 vd2 vd3
    rintro e w5 ⟨rfl, hb⟩
    (try simp only [World.size_alloc, World.size_setCell, World.size_drew] at hb)
    have HB := Lib.hid hb
    clear hb
    have s5 := HB.out.size
    (try simp only [World.size_alloc, World.size_setCell, World.size_drew] at s5)
    replace d1 := Lib.hid (d1.out.below HB.out (by omega))
    replace d2 := Lib.hid (d2.out.below HB.out (by omega))
    replace Bd := Lib.hid (Bd.out.below HB.out (by omega))
    replace EB := Lib.hid (below_step HB.out EB.out (by omega))
    clear HB
    go_wp2
    go_ret
    exact ⟨rfl, EB.out⟩
  · have hn0 : ¬ ctOut Dd pd Sd qd zn < 0 := by rw [hct]; exact hneg
    obtain ⟨hg, _⟩ := ct_ok hn0
    obtain ⟨hv, hq, hN1, hN2⟩ := rdGood_iff.1 hg
    obtain ⟨st, hst, hhow⟩ := rd_how hg
    have hol := (rd_of hg).trans (by rw [hst])
    obtain ⟨L, hL⟩ : ∃ L, rdL Dd pd (mayAt Sd qd.toNat) zn = L := ⟨_, rfl⟩
    by_cases hs1 : st = 1
    · have h1 := ct_end hn0 (by rw [hst]; exact hs1)
      rw [hct] at h1
      subst h1
      subst hs1
      rw [hL] at hol
      clear hhow
      have vdl := Bd.out.lt
      have vd0 := (Bd.out.2 0 _ rfl).1
      have vd1 := (Bd.out.2 1 _ rfl).1
      have vd2 := (Bd.out.2 2 _ rfl).1
      have vd3 := (Bd.out.2 3 _ rfl).1
      go_wp2_with fail
      refine (to_dli (ReadDevice_x d1.out d2.out (by omega) (by omega) hcd hcd' (by omega) (by omega) (by unfold okInt; omega)) hol).mono ?_
      clear vdl vd0 vd1 vd2 vd3
      rintro e w5 ⟨Ax, nx, cx, Ax', nx', cx', Al, nl, cl, rfl, ⟨hcx, hcx', hcl⟩, hb, ⟨hd, hd', _, _, _⟩, hl⟩
      (try simp only [World.size_alloc, World.size_setCell, World.size_drew] at hb)
      have HB := Lib.hid hb
      clear hb
      have s5 := HB.out.size
      (try simp only [World.size_alloc, World.size_setCell, World.size_drew] at s5)
      replace d1 := Lib.hid (d1.out.below HB.out (by omega))
      replace d2 := Lib.hid (d2.out.below HB.out (by omega))
      replace Bd := Lib.hid (Bd.out.below HB.out (by omega))
      replace EB := Lib.hid (below_step HB.out EB.out (by omega))
      clear HB
      have l1 := Lib.hid hl
      have x1 := Lib.hid hd
      have x2 := Lib.hid hd'
      clear hd hd' hl
      have hnx : nx ≤ 1048576 := by have h1 := x1.out.len; have h2 := d1.out.len; (try simp only [List.length_nil, cutL_len] at h1); omega
      have hnx' : nx' ≤ 1048576 := by have h1 := x2.out.len; have h2 := d2.out.len; (try simp only [List.length_nil] at h1); omega
      go_wp2
      go_ret
      exact ⟨rfl, EB.out.alloc (by omega) _⟩
    · obtain ⟨hnext, hle⟩ := ct_next hn0 (by rw [hst]; exact hs1)
      rw [hct, hL] at hnext
      rw [hct] at hle
      rw [hL] at hol
      have HOL := Lib.hid hol
      have hw1 : IntKind.i64.wrap (ct - 1) = ct - 1 := IntWalk.i64_in _ (by omega)
      clear hhow hol
      have HSM := Lib.hid (fun hs => ct_smooth hn0 hs)
      cases hsm : smoothB Sd qd.toNat
      · have HIS : Hid ((validD Dd pd Sd qd && smoothB Sd qd.toNat) = false) := by show _ = _; rw [hv, hsm]; rfl
        have vdl := Bd.out.lt
        have vd0 := (Bd.out.2 0 _ rfl).1
        have vd1 := (Bd.out.2 1 _ rfl).1
        have vd2 := (Bd.out.2 2 _ rfl).1
        have vd3 := (Bd.out.2 3 _ rfl).1
        go_wp2_with fail
        refine (to_dli (ReadDevice_x d1.out d2.out (by omega) (by omega) hcd hcd' (by omega) (by omega) (by unfold okInt; omega)) HOL.out).mono ?_
        clear vdl vd0 vd1 vd2 vd3
        rintro e w5 ⟨Ax, nx, cx, Ax', nx', cx', Al, nl, cl, rfl, ⟨hcx, hcx', hcl⟩, hb, ⟨hd, hd', _, _, _⟩, hl⟩
        (try simp only [World.size_alloc, World.size_setCell, World.size_drew] at hb)
        have HB := Lib.hid hb
        clear hb
        have s5 := HB.out.size
        (try simp only [World.size_alloc, World.size_setCell, World.size_drew] at s5)
        replace d1 := Lib.hid (d1.out.below HB.out (by omega))
        replace d2 := Lib.hid (d2.out.below HB.out (by omega))
        replace Bd := Lib.hid (Bd.out.below HB.out (by omega))
        replace EB := Lib.hid (below_step HB.out EB.out (by omega))
        clear HB
        have l1 := Lib.hid hl
        have x1 := Lib.hid hd
        have x2 := Lib.hid hd'
        clear hd hd' hl
        have hnx : nx ≤ 1048576 := by have h1 := x1.out.len; have h2 := d1.out.len; (try simp only [List.length_nil, cutL_len] at h1); omega
        have hnx' : nx' ≤ 1048576 := by have h1 := x2.out.len; have h2 := d2.out.len; (try simp only [List.length_nil] at h1); omega
        go_wp2_with fail
        replace d1 := Lib.hid (d1.out.alloc (by omega) (.cells #[.slice Ax nx cx, .int .i64 (pd + (L.length : Int)), .slice Ax' nx' cx', .int .i64 (qd + 1)] 27))
        replace d2 := Lib.hid (d2.out.alloc (by omega) (.cells #[.slice Ax nx cx, .int .i64 (pd + (L.length : Int)), .slice Ax' nx' cx', .int .i64 (qd + 1)] 27))
        replace Bd := Lib.hid (Bd.out.alloc (.cells #[.slice Ax nx cx, .int .i64 (pd + (L.length : Int)), .slice Ax' nx' cx', .int .i64 (qd + 1)] 27))
        replace l1 := Lib.hid (l1.out.alloc (by omega) (.cells #[.slice Ax nx cx, .int .i64 (pd + (L.length : Int)), .slice Ax' nx' cx', .int .i64 (qd + 1)] 27))
        replace x1 := Lib.hid (x1.out.alloc (by omega) (.cells #[.slice Ax nx cx, .int .i64 (pd + (L.length : Int)), .slice Ax' nx' cx', .int .i64 (qd + 1)] 27))
        replace x2 := Lib.hid (x2.out.alloc (by omega) (.cells #[.slice Ax nx cx, .int .i64 (pd + (L.length : Int)), .slice Ax' nx' cx', .int .i64 (qd + 1)] 27))
        replace EB := Lib.hid (EB.out.alloc (by omega) (.cells #[.slice Ax nx cx, .int .i64 (pd + (L.length : Int)), .slice Ax' nx' cx', .int .i64 (qd + 1)] 27))
        have Bx := Lib.hid (Box.new w5 27 [.slice Ax nx cx, .int .i64 (pd + (L.length : Int)), .slice Ax' nx' cx', .int .i64 (qd + 1)])
        have s6 : w5.heap.size + 1 ≤ (w5.alloc (.cells #[.slice Ax nx cx, .int .i64 (pd + (L.length : Int)), .slice Ax' nx' cx', .int .i64 (qd + 1)] 27)).heap.size := by simp
        generalize w5.alloc (.cells #[.slice Ax nx cx, .int .i64 (pd + (L.length : Int)), .slice Ax' nx' cx', .int .i64 (qd + 1)] 27) = w6 at *
        refine (to_int (CallsToEnd_x x1.out x2.out (by omega) (by omega) (by unfold okInt; omega)) hnext).mono ?_
        rintro e w7 ⟨rfl, hb⟩
        (try simp only [World.size_alloc, World.size_setCell, World.size_drew] at hb)
        have HB := Lib.hid hb
        clear hb
        have s7 := HB.out.size
        (try simp only [World.size_alloc, World.size_setCell, World.size_drew] at s7)
        replace d1 := Lib.hid (d1.out.below HB.out (by omega))
        replace d2 := Lib.hid (d2.out.below HB.out (by omega))
        replace Bd := Lib.hid (Bd.out.below HB.out (by omega))
        replace l1 := Lib.hid (l1.out.below HB.out (by omega))
        replace x1 := Lib.hid (x1.out.below HB.out (by omega))
        replace x2 := Lib.hid (x2.out.below HB.out (by omega))
        replace Bx := Lib.hid (Bx.out.below HB.out (by omega))
        replace EB := Lib.hid (below_step HB.out EB.out (by omega))
        clear HB
        have vdl := Bd.out.lt
        have vd0 := (Bd.out.2 0 _ rfl).1
        have vd1 := (Bd.out.2 1 _ rfl).1
        have vd2 := (Bd.out.2 2 _ rfl).1
        have vd3 := (Bd.out.2 3 _ rfl).1
        go_wp2_with fail
        refine (to_bool (IsSmooth_any d1.out d2.out (by omega) (by omega)) HIS.out).mono ?_
        clear vdl vd0 vd1 vd2 vd3
        rintro e w8 ⟨rfl, hb⟩
        (try simp only [World.size_alloc, World.size_setCell, World.size_drew] at hb)
        have HB := Lib.hid hb
        clear hb
        have s8 := HB.out.size
        (try simp only [World.size_alloc, World.size_setCell, World.size_drew] at s8)
        replace d1 := Lib.hid (d1.out.below HB.out (by omega))
        replace d2 := Lib.hid (d2.out.below HB.out (by omega))
        replace Bd := Lib.hid (Bd.out.below HB.out (by omega))
        replace l1 := Lib.hid (l1.out.below HB.out (by omega))
        replace x1 := Lib.hid (x1.out.below HB.out (by omega))
        replace x2 := Lib.hid (x2.out.below HB.out (by omega))
        replace Bx := Lib.hid (Bx.out.below HB.out (by omega))
        replace EB := Lib.hid (below_step HB.out EB.out (by omega))
        clear HB
        go_wp2
        go_ret
        exact ⟨rfl, EB.out⟩
      · have HIS : Hid ((validD Dd pd Sd qd && smoothB Sd qd.toNat) = true) := by show _ = _; rw [hv, hsm]; rfl
        have hcl := HSM.out hsm
        rw [hct] at hcl
        have vdl := Bd.out.lt
        have vd0 := (Bd.out.2 0 _ rfl).1
        have vd1 := (Bd.out.2 1 _ rfl).1
        have vd2 := (Bd.out.2 2 _ rfl).1
        have vd3 := (Bd.out.2 3 _ rfl).1
        go_wp2_with fail
        refine (to_dli (ReadDevice_x d1.out d2.out (by omega) (by omega) hcd hcd' (by omega) (by omega) (by unfold okInt; omega)) HOL.out).mono ?_
        clear vdl vd0 vd1 vd2 vd3
        rintro e w5 ⟨Ax, nx, cx, Ax', nx', cx', Al, nl, cl, rfl, ⟨hcx, hcx', hcl⟩, hb, ⟨hd, hd', _, _, _⟩, hl⟩
        (try simp only [World.size_alloc, World.size_setCell, World.size_drew] at hb)
        have HB := Lib.hid hb
        clear hb
        have s5 := HB.out.size
        (try simp only [World.size_alloc, World.size_setCell, World.size_drew] at s5)
        replace d1 := Lib.hid (d1.out.below HB.out (by omega))
        replace d2 := Lib.hid (d2.out.below HB.out (by omega))
        replace Bd := Lib.hid (Bd.out.below HB.out (by omega))
        replace EB := Lib.hid (below_step HB.out EB.out (by omega))
        clear HB
        have l1 := Lib.hid hl
        have x1 := Lib.hid hd
        have x2 := Lib.hid hd'
        clear hd hd' hl
        have hnx : nx ≤ 1048576 := by have h1 := x1.out.len; have h2 := d1.out.len; (try simp only [List.length_nil, cutL_len] at h1); omega
        have hnx' : nx' ≤ 1048576 := by have h1 := x2.out.len; have h2 := d2.out.len; (try simp only [List.length_nil] at h1); omega
        go_wp2_with fail
        replace d1 := Lib.hid (d1.out.alloc (by omega) (.cells #[.slice Ax nx cx, .int .i64 (pd + (L.length : Int)), .slice Ax' nx' cx', .int .i64 (qd + 1)] 27))
        replace d2 := Lib.hid (d2.out.alloc (by omega) (.cells #[.slice Ax nx cx, .int .i64 (pd + (L.length : Int)), .slice Ax' nx' cx', .int .i64 (qd + 1)] 27))
        replace Bd := Lib.hid (Bd.out.alloc (.cells #[.slice Ax nx cx, .int .i64 (pd + (L.length : Int)), .slice Ax' nx' cx', .int .i64 (qd + 1)] 27))
        replace l1 := Lib.hid (l1.out.alloc (by omega) (.cells #[.slice Ax nx cx, .int .i64 (pd + (L.length : Int)), .slice Ax' nx' cx', .int .i64 (qd + 1)] 27))
        replace x1 := Lib.hid (x1.out.alloc (by omega) (.cells #[.slice Ax nx cx, .int .i64 (pd + (L.length : Int)), .slice Ax' nx' cx', .int .i64 (qd + 1)] 27))
        replace x2 := Lib.hid (x2.out.alloc (by omega) (.cells #[.slice Ax nx cx, .int .i64 (pd + (L.length : Int)), .slice Ax' nx' cx', .int .i64 (qd + 1)] 27))
        replace EB := Lib.hid (EB.out.alloc (by omega) (.cells #[.slice Ax nx cx, .int .i64 (pd + (L.length : Int)), .slice Ax' nx' cx', .int .i64 (qd + 1)] 27))
        have Bx := Lib.hid (Box.new w5 27 [.slice Ax nx cx, .int .i64 (pd + (L.length : Int)), .slice Ax' nx' cx', .int .i64 (qd + 1)])
        have s6 : w5.heap.size + 1 ≤ (w5.alloc (.cells #[.slice Ax nx cx, .int .i64 (pd + (L.length : Int)), .slice Ax' nx' cx', .int .i64 (qd + 1)] 27)).heap.size := by simp
        generalize w5.alloc (.cells #[.slice Ax nx cx, .int .i64 (pd + (L.length : Int)), .slice Ax' nx' cx', .int .i64 (qd + 1)] 27) = w6 at *
        refine (to_int (CallsToEnd_x x1.out x2.out (by omega) (by omega) (by unfold okInt; omega)) hnext).mono ?_
        rintro e w7 ⟨rfl, hb⟩
        (try simp only [World.size_alloc, World.size_setCell, World.size_drew] at hb)
        have HB := Lib.hid hb
        clear hb
        have s7 := HB.out.size
        (try simp only [World.size_alloc, World.size_setCell, World.size_drew] at s7)
        replace d1 := Lib.hid (d1.out.below HB.out (by omega))
        replace d2 := Lib.hid (d2.out.below HB.out (by omega))
        replace Bd := Lib.hid (Bd.out.below HB.out (by omega))
        replace l1 := Lib.hid (l1.out.below HB.out (by omega))
        replace x1 := Lib.hid (x1.out.below HB.out (by omega))
        replace x2 := Lib.hid (x2.out.below HB.out (by omega))
        replace Bx := Lib.hid (Bx.out.below HB.out (by omega))
        replace EB := Lib.hid (below_step HB.out EB.out (by omega))
        clear HB
        have vdl := Bd.out.lt
        have vd0 := (Bd.out.2 0 _ rfl).1
        have vd1 := (Bd.out.2 1 _ rfl).1
        have vd2 := (Bd.out.2 2 _ rfl).1
        have vd3 := (Bd.out.2 3 _ rfl).1
        go_wp2_with fail
        refine (to_bool (IsSmooth_any d1.out d2.out (by omega) (by omega)) HIS.out).mono ?_
        clear vdl vd0 vd1 vd2 vd3
        rintro e w8 ⟨rfl, hb⟩
        (try simp only [World.size_alloc, World.size_setCell, World.size_drew] at hb)
        have HB := Lib.hid hb
        clear hb
        have s8 := HB.out.size
        (try simp only [World.size_alloc, World.size_setCell, World.size_drew] at s8)
        replace d1 := Lib.hid (d1.out.below HB.out (by omega))
        replace d2 := Lib.hid (d2.out.below HB.out (by omega))
        replace Bd := Lib.hid (Bd.out.below HB.out (by omega))
        replace l1 := Lib.hid (l1.out.below HB.out (by omega))
        replace x1 := Lib.hid (x1.out.below HB.out (by omega))
        replace x2 := Lib.hid (x2.out.below HB.out (by omega))
        replace Bx := Lib.hid (Bx.out.below HB.out (by omega))
        replace EB := Lib.hid (below_step HB.out EB.out (by omega))
        clear HB
        have vdl := Bd.out.lt
        have vd0 := (Bd.out.2 0 _ rfl).1
        have vd1 := (Bd.out.2 1 _ rfl).1
        have vd2 := (Bd.out.2 2 _ rfl).1
        have vd3 := (Bd.out.2 3 _ rfl).1
        go_wp2_with fail
        refine (to_list (RestOf_x d1.out d2.out (by omega) (by omega) hcd hcd' (by omega) (by omega)) (rest_of hv)).mono ?_
        clear vdl vd0 vd1 vd2 vd3
        rintro e w9 ⟨Ar, nr, cr, rfl, hcr, hb, hl⟩
        (try simp only [World.size_alloc, World.size_setCell, World.size_drew] at hb)
        have HB := Lib.hid hb
        clear hb
        have s9 := HB.out.size
        (try simp only [World.size_alloc, World.size_setCell, World.size_drew] at s9)
        replace d1 := Lib.hid (d1.out.below HB.out (by omega))
        replace d2 := Lib.hid (d2.out.below HB.out (by omega))
        replace Bd := Lib.hid (Bd.out.below HB.out (by omega))
        replace l1 := Lib.hid (l1.out.below HB.out (by omega))
        replace x1 := Lib.hid (x1.out.below HB.out (by omega))
        replace x2 := Lib.hid (x2.out.below HB.out (by omega))
        replace Bx := Lib.hid (Bx.out.below HB.out (by omega))
        replace EB := Lib.hid (below_step HB.out EB.out (by omega))
        clear HB
        have r1 := Lib.hid hl
        clear hl
        have hrl : ct ≤ (nr : Int) + 1 := by have h1 := r1.out.len; omega
        have hrn : nr ≤ 1048576 := by have h1 := r1.out.len; have h2 := d1.out.len; rw [List.length_drop] at h1; omega
        have hw2 : IntKind.i64.wrap ((nr : Int) + 1) = (nr : Int) + 1 := IntWalk.i64_in _ (by omega)
        go_wp2
        go_ret
        exact ⟨rfl, EB.out⟩

theorem contract (H : Type) (enc : TypeId × Value → H) (W : World) (base : Nat) (args : Array Value) (ds gs : List (DataW H)) (before : List MemPlace)
    (hval : ∀ (j : Nat) t v, Try.f7.params[j]? = some t → args[j]? = some v → Value.okWide Try.prog W .any base t v)
    (hW : DataW.Whole enc Try.prog Try.f7.params.toList Rows.fnCallsToEndSpec.vars false W args.toList ds gs before) :
    Calls Try.prog 7 args W fun e W' => ∃ v, e = .returned v ∧ Rows.fnCallsToEndSpec.post enc Try.prog Try.f7 false true false false W args v W' := by
  have hW' := hW
  have hlt : ∀ p ∈ before, p.block < W.heap.size := fun p hp => hW.lt p hp
  obtain ⟨p, q, hA0, hV, rfl, hfz, hnd⟩ := hW
  have hA : DataW.TrodAll enc Try.prog W 0 (fun _ => true) true Try.f7.params.toList args.toList ds p := hA0
  rw [Try.params7] at hA hval
  obtain ⟨v0, vs0, d0, ds0, p0, q0, hargs, rfl, rfl, h0, r0⟩ := trodAll_cons hA
  obtain ⟨rfl, rfl, rfl⟩ := trodAll_nil r0
  obtain rfl : args = #[v0] := by cases args; simp_all
  obtain ⟨rfl, rfl⟩ := trodVars_none hV
  obtain ⟨A, n, c, rfl, hnc, hby, hmx⟩ := arg_bytes (hval 0 _ v0 rfl rfl) h0 (fun p hp => hlt p (by simp [hp]))
  refine (walk A n c W hby hnc hmx).mono fun e W' hh => ?_
  obtain ⟨rfl, hb⟩ := hh
  exact ⟨_, rfl, law_post laidOut (tys_of (by rw [Try.params7]; kernel_rfl)) hW' rfl rfl rfl Try.underlying4 hb⟩

set_option maxRecDepth 100000 in
theorem lifted (os : Os) (started : os.Started) (H : Type) (enc : TypeId × Value → H) :
    ReturnsInHanded {} Try.checked os 7 .any (Rows.fnCallsToEndSpec.pre6 enc Try.prog Try.f7 Rows.fnCallsToEndRow.domain false) (Rows.fnCallsToEndSpec.post enc Try.prog Try.f7 false true false false) := by
  refine returnsInHanded_of_change (C := Try.checked) own started (by kernel_rfl) Try.func7
    (ChangeSpec.witness6 (C := Try.checked) false ⟨#[], #[.slice none 0 0], []⟩ 8 (by kernel_rfl) (by kernel_rfl) (by kernel_rfl) (by kernel_rfl)) ?_
  intro W base args ds gs before hval hW _ _
  exact contract H enc W base args ds gs before hval hW

theorem holds : Rows.FnCallsToEndSaid :=
  OpenClaim.holds_of_wide 7 Try.f7 rfl rfl rfl rfl rfl rfl rfl ⟨rfl, rfl, rfl, rfl, rfl⟩ rfl rfl rfl rfl rfl (by kernel_rfl) Try.func7 (by kernel_rfl)
    (of_decide_eq_true (by kernel_rfl)) (by unfold Func.isWrapper; first | (rw [if_pos (by decide +kernel)]; kernel_rfl) | (rw [if_neg (by decide +kernel)]; exact ⟨rfl, rfl⟩))
    (fun os started H enc _ => lifted os started H enc)
end LawCallsToEnd
end Go.Proofs.Ytbphijnhcpcclaa
