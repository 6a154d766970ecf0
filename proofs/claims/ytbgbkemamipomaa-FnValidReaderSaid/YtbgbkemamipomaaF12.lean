/- The law of promise 12: what is ahead of a valid reader are the bytes from the place on that it tells. No conditions. -/
import Derived.Test.YtbgbkemamipomaaH1
import Derived.Test.YtbgbkemamipomaaH2
import Derived.Test.YtbgbkemamipomaaS2a
import Derived.Test.YtbgbkemamipomaaC2b
set_option maxRecDepth 10000
namespace Go.Proofs.Ytbgbkemamipomaa
open Go.ChangeShapes Go.WideShapes Go.ChangeAt Go.RowKit
set_option linter.unusedSimpArgs false
set_option linter.unusedVariables false
namespace LawValidReader
set_option maxHeartbeats 8000000 in
theorem walk (A : Option Addr) (n c : Nat) (w : World) (h : BytesIn w w.heap.size A n) (hnc : n ≤ c) (hm : n ≤ 9223372036854775807) :
    Calls Try.prog 3 #[.slice A n c] w (BoolB true w) := by
  have HBY := Lib.hid h
  clear h
  have EB := Lib.hid (Below.refl w.heap.size w)
  by_cases hbig : (1048576 : Int) < (n : Int)
  · go_enter Try.func3, Try.ntmps3
    go_wp2
    go_ret
    exact ⟨rfl, Below.refl _ _⟩
  go_enter Try.func3, Try.ntmps3
  go_wp2_with fail
  refine (DrawValidReader_any HBY.out (by omega) hnc).mono ?_
  rintro e w1 ⟨Ad, nd, cd, Ad', nd', cd', Ed, md, kd, Dd, Sd, Rd, pd, qd, yd, rfl, ⟨⟨hcd, hcd', hkd⟩, ⟨hnd, hnd', hmd⟩, hpd, hqd, hyd, hb, hd, hd', hr⟩⟩
  (try simp only [World.size_alloc, World.size_setCell, World.size_drew] at hb)
  have HB := Lib.hid hb
  clear hb
  have s1 := HB.out.size
  (try simp only [World.size_alloc, World.size_setCell, World.size_drew] at s1)
  replace EB := Lib.hid (below_step HB.out EB.out (by omega))
  clear HB
  clear HBY
  have d1 := Lib.hid hd
  have d2 := Lib.hid hd'
  have d3 := Lib.hid hr
  clear hd hd' hr
  go_wp2_with fail
  replace d1 := Lib.hid (d1.out.alloc (by omega) (.cells #[.slice Ad nd cd, .int .i64 (pd), .slice Ad' nd' cd', .int .i64 (qd), .slice Ed md kd, .int .i64 (yd)] 27))
  replace d2 := Lib.hid (d2.out.alloc (by omega) (.cells #[.slice Ad nd cd, .int .i64 (pd), .slice Ad' nd' cd', .int .i64 (qd), .slice Ed md kd, .int .i64 (yd)] 27))
  replace d3 := Lib.hid (d3.out.alloc (by omega) (.cells #[.slice Ad nd cd, .int .i64 (pd), .slice Ad' nd' cd', .int .i64 (qd), .slice Ed md kd, .int .i64 (yd)] 27))
  replace EB := Lib.hid (EB.out.alloc (by omega) (.cells #[.slice Ad nd cd, .int .i64 (pd), .slice Ad' nd' cd', .int .i64 (qd), .slice Ed md kd, .int .i64 (yd)] 27))
  have Bd := Lib.hid (Box.new w1 27 [.slice Ad nd cd, .int .i64 (pd), .slice Ad' nd' cd', .int .i64 (qd), .slice Ed md kd, .int .i64 (yd)])
  have s2 : w1.heap.size + 1 ≤ (w1.alloc (.cells #[.slice Ad nd cd, .int .i64 (pd), .slice Ad' nd' cd', .int .i64 (qd), .slice Ed md kd, .int .i64 (yd)] 27)).heap.size := by simp
  generalize w1.alloc (.cells #[.slice Ad nd cd, .int .i64 (pd), .slice Ad' nd' cd', .int .i64 (qd), .slice Ed md kd, .int .i64 (yd)] 27) = w2 at *
  refine (to_boolN (ValidReader_any d1.out d2.out d3.out (by omega) (by omega) (by omega) hcd) rfl).mono ?_
  rintro e w3 ⟨rfl, hb⟩
  (try simp only [World.size_alloc, World.size_setCell, World.size_drew] at hb)
  have HB := Lib.hid hb
  clear hb
  have s3 := HB.out.size
  (try simp only [World.size_alloc, World.size_setCell, World.size_drew] at s3)
  replace d1 := Lib.hid (d1.out.below HB.out (by omega))
  replace d2 := Lib.hid (d2.out.below HB.out (by omega))
  replace d3 := Lib.hid (d3.out.below HB.out (by omega))
  replace Bd := Lib.hid (Bd.out.below HB.out (by omega))
  replace EB := Lib.hid (below_step HB.out EB.out (by omega))
  clear HB
  cases hv : validR Dd pd Sd qd Rd yd
  · have vdl := Bd.out.lt
    have vd0 := (Bd.out.2 0 _ rfl).1
    have vd1 := (Bd.out.2 1 _ rfl).1
    have vd2 := (Bd.out.2 2 _ rfl).1
    have vd3 := (Bd.out.2 3 _ rfl).1
    have vd4 := (Bd.out.2 4 _ rfl).1
    have vd5 := (Bd.out.2 5 _ rfl).1
    go_wp2_with fail
    refine (to_boolN (SValidReader_any d1.out d2.out d3.out (by omega) (by omega) (by omega)) hv).mono ?_
    clear vdl vd0 vd1 vd2 vd3 vd4 vd5
    rintro e w4 ⟨rfl, hb⟩
    (try simp only [World.size_alloc, World.size_setCell, World.size_drew] at hb)
    have HB := Lib.hid hb
    clear hb
    have s4 := HB.out.size
    (try simp only [World.size_alloc, World.size_setCell, World.size_drew] at s4)
    replace d1 := Lib.hid (d1.out.below HB.out (by omega))
    replace d2 := Lib.hid (d2.out.below HB.out (by omega))
    replace d3 := Lib.hid (d3.out.below HB.out (by omega))
    replace Bd := Lib.hid (Bd.out.below HB.out (by omega))
    replace EB := Lib.hid (below_step HB.out EB.out (by omega))
    clear HB
    have vdl := Bd.out.lt
    have vd0 := (Bd.out.2 0 _ rfl).1
    have vd1 := (Bd.out.2 1 _ rfl).1
    have vd2 := (Bd.out.2 2 _ rfl).1
    have vd3 := (Bd.out.2 3 _ rfl).1
    have vd4 := (Bd.out.2 4 _ rfl).1
    have vd5 := (Bd.out.2 5 _ rfl).1
    go_wp2_with fail
    refine (to_boolN (SValidReader_any d1.out d2.out d3.out (by omega) (by omega) (by omega)) hv).mono ?_
    clear vdl vd0 vd1 vd2 vd3 vd4 vd5
    rintro e w5 ⟨rfl, hb⟩
    (try simp only [World.size_alloc, World.size_setCell, World.size_drew] at hb)
    have HB := Lib.hid hb
    clear hb
    have s5 := HB.out.size
    (try simp only [World.size_alloc, World.size_setCell, World.size_drew] at s5)
    replace d1 := Lib.hid (d1.out.below HB.out (by omega))
    replace d2 := Lib.hid (d2.out.below HB.out (by omega))
    replace d3 := Lib.hid (d3.out.below HB.out (by omega))
    replace Bd := Lib.hid (Bd.out.below HB.out (by omega))
    replace EB := Lib.hid (below_step HB.out EB.out (by omega))
    clear HB
    go_wp2
    go_ret
    exact ⟨rfl, EB.out⟩
  · have vdl := Bd.out.lt
    have vd0 := (Bd.out.2 0 _ rfl).1
    have vd1 := (Bd.out.2 1 _ rfl).1
    have vd2 := (Bd.out.2 2 _ rfl).1
    have vd3 := (Bd.out.2 3 _ rfl).1
    have vd4 := (Bd.out.2 4 _ rfl).1
    have vd5 := (Bd.out.2 5 _ rfl).1
    go_wp2_with fail
    refine (to_boolN (SValidReader_any d1.out d2.out d3.out (by omega) (by omega) (by omega)) hv).mono ?_
    clear vdl vd0 vd1 vd2 vd3 vd4 vd5
    rintro e w4 ⟨rfl, hb⟩
    (try simp only [World.size_alloc, World.size_setCell, World.size_drew] at hb)
    have HB := Lib.hid hb
    clear hb
    have s4 := HB.out.size
    (try simp only [World.size_alloc, World.size_setCell, World.size_drew] at s4)
    replace d1 := Lib.hid (d1.out.below HB.out (by omega))
    replace d2 := Lib.hid (d2.out.below HB.out (by omega))
    replace d3 := Lib.hid (d3.out.below HB.out (by omega))
    replace Bd := Lib.hid (Bd.out.below HB.out (by omega))
    replace EB := Lib.hid (below_step HB.out EB.out (by omega))
    clear HB
    obtain ⟨t, ht⟩ := RAt.of_valid hv
    have hmd := d3.out.len
    have ht1 : pd = (t : Int) + (md : Int) := by have := ht.1; omega
    have hto : tellOut Dd pd Sd qd Rd yd = (t : Int) := by unfold tellOut; rw [hv]; have := ht.1; simp; omega
    have hah : Rd ++ restL Dd pd Sd qd = Dd.drop t := by unfold restL; rw [(validR_iff.1 hv).1]; exact ht.2.1
    have HTO := Lib.hid hto
    have HAH := Lib.hid hah
    have HV := Lib.hid hv
    clear hto hah hv ht hmd
    subst ht1
    have hdl := d1.out.len
    by_cases hm : nd < t
    · have hnt : nd ≤ nd := by omega
      have hnc : ((nd : Nat) : Int) ≤ (cd : Int) := by omega
      have hnt2 : ((nd : Nat) : Int) ≤ (nd : Int) := by omega
      have HDR : Hid (Dd.drop t = Dd.drop nd) := by show _ = _; rw [List.drop_of_length_le (by omega), List.drop_of_length_le (by omega)]
      clear hdl
      have vdl := Bd.out.lt
      have vd0 := (Bd.out.2 0 _ rfl).1
      have vd1 := (Bd.out.2 1 _ rfl).1
      have vd2 := (Bd.out.2 2 _ rfl).1
      have vd3 := (Bd.out.2 3 _ rfl).1
      have vd4 := (Bd.out.2 4 _ rfl).1
      have vd5 := (Bd.out.2 5 _ rfl).1
      go_wp2_with fail
      go_region_held3 (fun w' => (w'.cell? ⟨w1.heap.size, 0, none⟩ = some (.slice Ad nd cd) ∧ w'.cell? ⟨w1.heap.size, 1, none⟩ = some (.int .i64 (((t : Int) + (md : Int)))) ∧ w'.cell? ⟨w1.heap.size, 2, none⟩ = some (.slice Ad' nd' cd') ∧ w'.cell? ⟨w1.heap.size, 3, none⟩ = some (.int .i64 (qd)) ∧ w'.cell? ⟨w1.heap.size, 4, none⟩ = some (.slice Ed md kd) ∧ w'.cell? ⟨w1.heap.size, 5, none⟩ = some (.int .i64 (yd)))) (go_keep)
        (first | (go_at_call 18; (with_reducible refine (to_intN (TellReader_x d1.out.drew d2.out.drew d3.out.drew (by first | omega | (simp; omega) | (simp; done)) (by first | omega | (simp; omega) | (simp; done)) (by first | omega | (simp; omega) | (simp; done)) hcd) HTO.out).mono ?_); rintro e wg10 ⟨rfl, hb⟩; (try simp only [World.size_alloc, World.size_setCell, World.size_drew] at hb); have HRg10 := Lib.hid hb; have srg10 := hb.size; (try simp only [World.size_alloc, World.size_setCell, World.size_drew] at srg10); have Ydg10 := Lib.hid (Bd.out.drew.below hb (by omega)); clear hb; have vd0 := (Ydg10.out.2 0 _ rfl).1; have vd1 := (Ydg10.out.2 1 _ rfl).1; have vd2 := (Ydg10.out.2 2 _ rfl).1; have vd3 := (Ydg10.out.2 3 _ rfl).1; have vd4 := (Ydg10.out.2 4 _ rfl).1; have vd5 := (Ydg10.out.2 5 _ rfl).1) | fail)
      replace d1 := Lib.hid (d1.out.drew.below HRg10.out (by first | omega | (simp; omega) | (simp; done)))
      replace d2 := Lib.hid (d2.out.drew.below HRg10.out (by first | omega | (simp; omega) | (simp; done)))
      replace d3 := Lib.hid (d3.out.drew.below HRg10.out (by first | omega | (simp; omega) | (simp; done)))
      replace Bd := Lib.hid Ydg10.out
      replace EB := Lib.hid (below_step HRg10.out EB.out.drew (by first | omega | (simp; omega) | (simp; done)))
      by_cases hcn : cd = nd
      · subst hcn
        have hrl : cd ≤ cd := by omega
        clear vdl vd0 vd1 vd2 vd3 vd4 vd5
        have vdl := Bd.out.lt
        have vd0 := (Bd.out.2 0 _ rfl).1
        have vd1 := (Bd.out.2 1 _ rfl).1
        have vd2 := (Bd.out.2 2 _ rfl).1
        have vd3 := (Bd.out.2 3 _ rfl).1
        have vd4 := (Bd.out.2 4 _ rfl).1
        have vd5 := (Bd.out.2 5 _ rfl).1
        go_wp2_with fail
        go_region_held3 (fun w' => (w'.cell? ⟨w1.heap.size, 0, none⟩ = some (.slice Ad cd cd) ∧ w'.cell? ⟨w1.heap.size, 1, none⟩ = some (.int .i64 (((t : Int) + (md : Int)))) ∧ w'.cell? ⟨w1.heap.size, 2, none⟩ = some (.slice Ad' nd' cd') ∧ w'.cell? ⟨w1.heap.size, 3, none⟩ = some (.int .i64 (qd)) ∧ w'.cell? ⟨w1.heap.size, 4, none⟩ = some (.slice Ed md kd) ∧ w'.cell? ⟨w1.heap.size, 5, none⟩ = some (.int .i64 (yd)))) (go_keep)
          (first | (go_at_call 20; (with_reducible refine (to_listN (ahead_any d1.out.drew d2.out.drew d3.out.drew (by first | omega | (simp; omega) | (simp; done)) (by first | omega | (simp; omega) | (simp; done)) (by first | omega | (simp; omega) | (simp; done)) hcd (by first | omega | (simp; omega) | (simp; done))) (HAH.out.trans HDR.out)).mono ?_); rintro e wg20 ⟨As, ns, cs, rfl, hcs, hb, hl⟩; (try simp only [World.size_alloc, World.size_setCell, World.size_drew] at hb hl); have HRg20 := Lib.hid hb; have srg20 := hb.size; (try simp only [World.size_alloc, World.size_setCell, World.size_drew] at srg20); have Ydg20 := Lib.hid (Bd.out.drew.below hb (by omega)); have s1 := Lib.hid hl; clear hb hl; have vd0 := (Ydg20.out.2 0 _ rfl).1; have vd1 := (Ydg20.out.2 1 _ rfl).1; have vd2 := (Ydg20.out.2 2 _ rfl).1; have vd3 := (Ydg20.out.2 3 _ rfl).1; have vd4 := (Ydg20.out.2 4 _ rfl).1; have vd5 := (Ydg20.out.2 5 _ rfl).1) | (go_at_call 19; (with_reducible refine (equalInts_same s1.out (by first | exact Ints.drop ((d1.out.drew.below HRg20.out (by first | omega | (simp; omega) | (simp; done)))) hnt | exact Ints.gone1 ((d1.out.drew.below HRg20.out (by first | omega | (simp; omega) | (simp; done)))) hrl _ | exact Ints.dropped ((d1.out.drew.below HRg20.out (by first | omega | (simp; omega) | (simp; done)))) hrl _) rfl).mono ?_); rintro e wg21 ⟨rfl, hb⟩; (try simp only [World.size_alloc, World.size_setCell, World.size_drew] at hb); have HRg21 := Lib.hid hb; have srg21 := hb.size; (try simp only [World.size_alloc, World.size_setCell, World.size_drew] at srg21); have Ydg21 := Lib.hid (Ydg20.out.below hb (by omega)); clear hb; have vd0 := (Ydg21.out.2 0 _ rfl).1; have vd1 := (Ydg21.out.2 1 _ rfl).1; have vd2 := (Ydg21.out.2 2 _ rfl).1; have vd3 := (Ydg21.out.2 3 _ rfl).1; have vd4 := (Ydg21.out.2 4 _ rfl).1; have vd5 := (Ydg21.out.2 5 _ rfl).1) | fail)
        go_wp2
        go_ret
        exact ⟨rfl, (below_step HRg21.out (below_step HRg20.out EB.out.drew (by first | omega | (simp; omega) | (simp; done))) (by first | omega | (simp; omega) | (simp; done)))⟩
      · have HCN := hcn
        have hrl : nd ≤ nd := by omega
        clear vdl vd0 vd1 vd2 vd3 vd4 vd5
        have vdl := Bd.out.lt
        have vd0 := (Bd.out.2 0 _ rfl).1
        have vd1 := (Bd.out.2 1 _ rfl).1
        have vd2 := (Bd.out.2 2 _ rfl).1
        have vd3 := (Bd.out.2 3 _ rfl).1
        have vd4 := (Bd.out.2 4 _ rfl).1
        have vd5 := (Bd.out.2 5 _ rfl).1
        go_wp2_with fail
        go_region_held3 (fun w' => (w'.cell? ⟨w1.heap.size, 0, none⟩ = some (.slice Ad nd cd) ∧ w'.cell? ⟨w1.heap.size, 1, none⟩ = some (.int .i64 (((t : Int) + (md : Int)))) ∧ w'.cell? ⟨w1.heap.size, 2, none⟩ = some (.slice Ad' nd' cd') ∧ w'.cell? ⟨w1.heap.size, 3, none⟩ = some (.int .i64 (qd)) ∧ w'.cell? ⟨w1.heap.size, 4, none⟩ = some (.slice Ed md kd) ∧ w'.cell? ⟨w1.heap.size, 5, none⟩ = some (.int .i64 (yd)))) (go_keep)
          (first | (go_at_call 20; (with_reducible refine (to_listN (ahead_any d1.out.drew d2.out.drew d3.out.drew (by first | omega | (simp; omega) | (simp; done)) (by first | omega | (simp; omega) | (simp; done)) (by first | omega | (simp; omega) | (simp; done)) hcd (by first | omega | (simp; omega) | (simp; done))) (HAH.out.trans HDR.out)).mono ?_); rintro e wg20 ⟨As, ns, cs, rfl, hcs, hb, hl⟩; (try simp only [World.size_alloc, World.size_setCell, World.size_drew] at hb hl); have HRg20 := Lib.hid hb; have srg20 := hb.size; (try simp only [World.size_alloc, World.size_setCell, World.size_drew] at srg20); have Ydg20 := Lib.hid (Bd.out.drew.below hb (by omega)); have s1 := Lib.hid hl; clear hb hl; have vd0 := (Ydg20.out.2 0 _ rfl).1; have vd1 := (Ydg20.out.2 1 _ rfl).1; have vd2 := (Ydg20.out.2 2 _ rfl).1; have vd3 := (Ydg20.out.2 3 _ rfl).1; have vd4 := (Ydg20.out.2 4 _ rfl).1; have vd5 := (Ydg20.out.2 5 _ rfl).1) | (go_at_call 19; (with_reducible refine (equalInts_same s1.out (by first | exact Ints.drop ((d1.out.drew.below HRg20.out (by first | omega | (simp; omega) | (simp; done)))) hnt | exact Ints.gone1 ((d1.out.drew.below HRg20.out (by first | omega | (simp; omega) | (simp; done)))) hrl _ | exact Ints.dropped ((d1.out.drew.below HRg20.out (by first | omega | (simp; omega) | (simp; done)))) hrl _) rfl).mono ?_); rintro e wg21 ⟨rfl, hb⟩; (try simp only [World.size_alloc, World.size_setCell, World.size_drew] at hb); have HRg21 := Lib.hid hb; have srg21 := hb.size; (try simp only [World.size_alloc, World.size_setCell, World.size_drew] at srg21); have Ydg21 := Lib.hid (Ydg20.out.below hb (by omega)); clear hb; have vd0 := (Ydg21.out.2 0 _ rfl).1; have vd1 := (Ydg21.out.2 1 _ rfl).1; have vd2 := (Ydg21.out.2 2 _ rfl).1; have vd3 := (Ydg21.out.2 3 _ rfl).1; have vd4 := (Ydg21.out.2 4 _ rfl).1; have vd5 := (Ydg21.out.2 5 _ rfl).1) | fail)
        go_wp2
        go_ret
        exact ⟨rfl, (below_step HRg21.out (below_step HRg20.out EB.out.drew (by first | omega | (simp; omega) | (simp; done))) (by first | omega | (simp; omega) | (simp; done)))⟩
    · have hnt : t ≤ nd := by omega
      have hnc : ((t : Nat) : Int) ≤ (cd : Int) := by omega
      have hnt2 : ((t : Nat) : Int) ≤ (nd : Int) := by omega
      clear hdl
      have vdl := Bd.out.lt
      have vd0 := (Bd.out.2 0 _ rfl).1
      have vd1 := (Bd.out.2 1 _ rfl).1
      have vd2 := (Bd.out.2 2 _ rfl).1
      have vd3 := (Bd.out.2 3 _ rfl).1
      have vd4 := (Bd.out.2 4 _ rfl).1
      have vd5 := (Bd.out.2 5 _ rfl).1
      go_wp2_with fail
      go_region_held3 (fun w' => (w'.cell? ⟨w1.heap.size, 0, none⟩ = some (.slice Ad nd cd) ∧ w'.cell? ⟨w1.heap.size, 1, none⟩ = some (.int .i64 (((t : Int) + (md : Int)))) ∧ w'.cell? ⟨w1.heap.size, 2, none⟩ = some (.slice Ad' nd' cd') ∧ w'.cell? ⟨w1.heap.size, 3, none⟩ = some (.int .i64 (qd)) ∧ w'.cell? ⟨w1.heap.size, 4, none⟩ = some (.slice Ed md kd) ∧ w'.cell? ⟨w1.heap.size, 5, none⟩ = some (.int .i64 (yd)))) (go_keep)
        (first | (go_at_call 18; (with_reducible refine (to_intN (TellReader_x d1.out.drew d2.out.drew d3.out.drew (by first | omega | (simp; omega) | (simp; done)) (by first | omega | (simp; omega) | (simp; done)) (by first | omega | (simp; omega) | (simp; done)) hcd) HTO.out).mono ?_); rintro e wg10 ⟨rfl, hb⟩; (try simp only [World.size_alloc, World.size_setCell, World.size_drew] at hb); have HRg10 := Lib.hid hb; have srg10 := hb.size; (try simp only [World.size_alloc, World.size_setCell, World.size_drew] at srg10); have Ydg10 := Lib.hid (Bd.out.drew.below hb (by omega)); clear hb; have vd0 := (Ydg10.out.2 0 _ rfl).1; have vd1 := (Ydg10.out.2 1 _ rfl).1; have vd2 := (Ydg10.out.2 2 _ rfl).1; have vd3 := (Ydg10.out.2 3 _ rfl).1; have vd4 := (Ydg10.out.2 4 _ rfl).1; have vd5 := (Ydg10.out.2 5 _ rfl).1) | fail)
      replace d1 := Lib.hid (d1.out.drew.below HRg10.out (by first | omega | (simp; omega) | (simp; done)))
      replace d2 := Lib.hid (d2.out.drew.below HRg10.out (by first | omega | (simp; omega) | (simp; done)))
      replace d3 := Lib.hid (d3.out.drew.below HRg10.out (by first | omega | (simp; omega) | (simp; done)))
      replace Bd := Lib.hid Ydg10.out
      replace EB := Lib.hid (below_step HRg10.out EB.out.drew (by first | omega | (simp; omega) | (simp; done)))
      by_cases hcn : cd = t
      · subst hcn
        have hrl : nd ≤ cd := by omega
        clear vdl vd0 vd1 vd2 vd3 vd4 vd5
        have vdl := Bd.out.lt
        have vd0 := (Bd.out.2 0 _ rfl).1
        have vd1 := (Bd.out.2 1 _ rfl).1
        have vd2 := (Bd.out.2 2 _ rfl).1
        have vd3 := (Bd.out.2 3 _ rfl).1
        have vd4 := (Bd.out.2 4 _ rfl).1
        have vd5 := (Bd.out.2 5 _ rfl).1
        go_wp2_with fail
        go_region_held3 (fun w' => (w'.cell? ⟨w1.heap.size, 0, none⟩ = some (.slice Ad nd cd) ∧ w'.cell? ⟨w1.heap.size, 1, none⟩ = some (.int .i64 (((cd : Int) + (md : Int)))) ∧ w'.cell? ⟨w1.heap.size, 2, none⟩ = some (.slice Ad' nd' cd') ∧ w'.cell? ⟨w1.heap.size, 3, none⟩ = some (.int .i64 (qd)) ∧ w'.cell? ⟨w1.heap.size, 4, none⟩ = some (.slice Ed md kd) ∧ w'.cell? ⟨w1.heap.size, 5, none⟩ = some (.int .i64 (yd)))) (go_keep)
          (first | (go_at_call 20; (with_reducible refine (to_listN (ahead_any d1.out.drew d2.out.drew d3.out.drew (by first | omega | (simp; omega) | (simp; done)) (by first | omega | (simp; omega) | (simp; done)) (by first | omega | (simp; omega) | (simp; done)) hcd (by first | omega | (simp; omega) | (simp; done))) HAH.out).mono ?_); rintro e wg20 ⟨As, ns, cs, rfl, hcs, hb, hl⟩; (try simp only [World.size_alloc, World.size_setCell, World.size_drew] at hb hl); have HRg20 := Lib.hid hb; have srg20 := hb.size; (try simp only [World.size_alloc, World.size_setCell, World.size_drew] at srg20); have Ydg20 := Lib.hid (Bd.out.drew.below hb (by omega)); have s1 := Lib.hid hl; clear hb hl; have vd0 := (Ydg20.out.2 0 _ rfl).1; have vd1 := (Ydg20.out.2 1 _ rfl).1; have vd2 := (Ydg20.out.2 2 _ rfl).1; have vd3 := (Ydg20.out.2 3 _ rfl).1; have vd4 := (Ydg20.out.2 4 _ rfl).1; have vd5 := (Ydg20.out.2 5 _ rfl).1) | (go_at_call 19; (with_reducible refine (equalInts_same s1.out (by first | exact Ints.drop ((d1.out.drew.below HRg20.out (by first | omega | (simp; omega) | (simp; done)))) hnt | exact Ints.gone1 ((d1.out.drew.below HRg20.out (by first | omega | (simp; omega) | (simp; done)))) hrl _ | exact Ints.dropped ((d1.out.drew.below HRg20.out (by first | omega | (simp; omega) | (simp; done)))) hrl _) rfl).mono ?_); rintro e wg21 ⟨rfl, hb⟩; (try simp only [World.size_alloc, World.size_setCell, World.size_drew] at hb); have HRg21 := Lib.hid hb; have srg21 := hb.size; (try simp only [World.size_alloc, World.size_setCell, World.size_drew] at srg21); have Ydg21 := Lib.hid (Ydg20.out.below hb (by omega)); clear hb; have vd0 := (Ydg21.out.2 0 _ rfl).1; have vd1 := (Ydg21.out.2 1 _ rfl).1; have vd2 := (Ydg21.out.2 2 _ rfl).1; have vd3 := (Ydg21.out.2 3 _ rfl).1; have vd4 := (Ydg21.out.2 4 _ rfl).1; have vd5 := (Ydg21.out.2 5 _ rfl).1) | fail)
        go_wp2
        go_ret
        exact ⟨rfl, (below_step HRg21.out (below_step HRg20.out EB.out.drew (by first | omega | (simp; omega) | (simp; done))) (by first | omega | (simp; omega) | (simp; done)))⟩
      · have HCN := hcn
        clear vdl vd0 vd1 vd2 vd3 vd4 vd5
        have vdl := Bd.out.lt
        have vd0 := (Bd.out.2 0 _ rfl).1
        have vd1 := (Bd.out.2 1 _ rfl).1
        have vd2 := (Bd.out.2 2 _ rfl).1
        have vd3 := (Bd.out.2 3 _ rfl).1
        have vd4 := (Bd.out.2 4 _ rfl).1
        have vd5 := (Bd.out.2 5 _ rfl).1
        go_wp2_with fail
        go_region_held3 (fun w' => (w'.cell? ⟨w1.heap.size, 0, none⟩ = some (.slice Ad nd cd) ∧ w'.cell? ⟨w1.heap.size, 1, none⟩ = some (.int .i64 (((t : Int) + (md : Int)))) ∧ w'.cell? ⟨w1.heap.size, 2, none⟩ = some (.slice Ad' nd' cd') ∧ w'.cell? ⟨w1.heap.size, 3, none⟩ = some (.int .i64 (qd)) ∧ w'.cell? ⟨w1.heap.size, 4, none⟩ = some (.slice Ed md kd) ∧ w'.cell? ⟨w1.heap.size, 5, none⟩ = some (.int .i64 (yd)))) (go_keep)
          (first | (go_at_call 20; (with_reducible refine (to_listN (ahead_any d1.out.drew d2.out.drew d3.out.drew (by first | omega | (simp; omega) | (simp; done)) (by first | omega | (simp; omega) | (simp; done)) (by first | omega | (simp; omega) | (simp; done)) hcd (by first | omega | (simp; omega) | (simp; done))) HAH.out).mono ?_); rintro e wg20 ⟨As, ns, cs, rfl, hcs, hb, hl⟩; (try simp only [World.size_alloc, World.size_setCell, World.size_drew] at hb hl); have HRg20 := Lib.hid hb; have srg20 := hb.size; (try simp only [World.size_alloc, World.size_setCell, World.size_drew] at srg20); have Ydg20 := Lib.hid (Bd.out.drew.below hb (by omega)); have s1 := Lib.hid hl; clear hb hl; have vd0 := (Ydg20.out.2 0 _ rfl).1; have vd1 := (Ydg20.out.2 1 _ rfl).1; have vd2 := (Ydg20.out.2 2 _ rfl).1; have vd3 := (Ydg20.out.2 3 _ rfl).1; have vd4 := (Ydg20.out.2 4 _ rfl).1; have vd5 := (Ydg20.out.2 5 _ rfl).1) | (go_at_call 19; (with_reducible refine (equalInts_same s1.out (by first | exact Ints.drop ((d1.out.drew.below HRg20.out (by first | omega | (simp; omega) | (simp; done)))) hnt) rfl).mono ?_); rintro e wg21 ⟨rfl, hb⟩; (try simp only [World.size_alloc, World.size_setCell, World.size_drew] at hb); have HRg21 := Lib.hid hb; have srg21 := hb.size; (try simp only [World.size_alloc, World.size_setCell, World.size_drew] at srg21); have Ydg21 := Lib.hid (Ydg20.out.below hb (by omega)); clear hb; have vd0 := (Ydg21.out.2 0 _ rfl).1; have vd1 := (Ydg21.out.2 1 _ rfl).1; have vd2 := (Ydg21.out.2 2 _ rfl).1; have vd3 := (Ydg21.out.2 3 _ rfl).1; have vd4 := (Ydg21.out.2 4 _ rfl).1; have vd5 := (Ydg21.out.2 5 _ rfl).1) | fail)
        go_wp2
        go_ret
        exact ⟨rfl, (below_step HRg21.out (below_step HRg20.out EB.out.drew (by first | omega | (simp; omega) | (simp; done))) (by first | omega | (simp; omega) | (simp; done)))⟩

theorem contract (H : Type) (enc : TypeId × Value → H) (W : World) (base : Nat) (args : Array Value) (ds gs : List (DataW H)) (before : List MemPlace)
    (hval : ∀ (j : Nat) t v, Try.f3.params[j]? = some t → args[j]? = some v → Value.okWide Try.prog W .any base t v)
    (hW : DataW.Whole enc Try.prog Try.f3.params.toList Rows.fnValidReaderSpec.vars false W args.toList ds gs before) :
    Calls Try.prog 3 args W fun e W' => ∃ v, e = .returned v ∧ Rows.fnValidReaderSpec.post enc Try.prog Try.f3 false true false false W args v W' := by
  have hW' := hW
  have hlt : ∀ p ∈ before, p.block < W.heap.size := fun p hp => hW.lt p hp
  obtain ⟨p, q, hA0, hV, rfl, hfz, hnd⟩ := hW
  have hA : DataW.TrodAll enc Try.prog W 0 (fun _ => true) true Try.f3.params.toList args.toList ds p := hA0
  rw [Try.params3] at hA hval
  obtain ⟨v0, vs0, d0, ds0, p0, q0, hargs, rfl, rfl, h0, r0⟩ := trodAll_cons hA
  obtain ⟨rfl, rfl, rfl⟩ := trodAll_nil r0
  obtain rfl : args = #[v0] := by cases args; simp_all
  obtain ⟨rfl, rfl⟩ := trodVars_none hV
  obtain ⟨A, n, c, rfl, hnc, hby, hmx⟩ := arg_bytes (hval 0 _ v0 rfl rfl) h0 (fun p hp => hlt p (by simp [hp]))
  refine (walk A n c W hby hnc hmx).mono fun e W' hh => ?_
  obtain ⟨rfl, hb⟩ := hh
  exact ⟨_, rfl, law_post laidOut (tys_of (by rw [Try.params3]; kernel_rfl)) hW' rfl rfl rfl Try.underlying4 hb⟩

set_option maxRecDepth 100000 in
theorem lifted (os : Os) (started : os.Started) (H : Type) (enc : TypeId × Value → H) :
    ReturnsInHanded {} Try.checked os 3 .any (Rows.fnValidReaderSpec.pre6 enc Try.prog Try.f3 Rows.fnValidReaderRow.domain false) (Rows.fnValidReaderSpec.post enc Try.prog Try.f3 false true false false) := by
  refine returnsInHanded_of_change (C := Try.checked) own started (by kernel_rfl) Try.func3
    (ChangeSpec.witness6 (C := Try.checked) false ⟨#[], #[.slice none 0 0], []⟩ 8 (by kernel_rfl) (by kernel_rfl) (by kernel_rfl) (by kernel_rfl)) ?_
  intro W base args ds gs before hval hW _ _
  exact contract H enc W base args ds gs before hval hW

theorem holds : Rows.FnValidReaderSaid :=
  OpenClaim.holds_of_wide 3 Try.f3 rfl rfl rfl rfl rfl rfl rfl ⟨rfl, rfl, rfl, rfl, rfl⟩ rfl rfl rfl rfl rfl (by kernel_rfl) Try.func3 (by kernel_rfl)
    (of_decide_eq_true (by kernel_rfl)) (by unfold Func.isWrapper; first | (rw [if_pos (by decide +kernel)]; kernel_rfl) | (rw [if_neg (by decide +kernel)]; exact ⟨rfl, rfl⟩))
    (fun os started H enc _ => lifted os started H enc)
end LawValidReader
end Go.Proofs.Ytbgbkemamipomaa
