/- The law of promise 09: what is ahead has as many bytes as there are from the place on. No conditions. -/
import Derived.Test.YtlincjmiimmmeaaK1
import Derived.Test.YtlincjmiimmmeaaG2
set_option maxRecDepth 10000
namespace Go.Proofs.Ytlincjmiimmmeaa
open Go.ChangeShapes Go.WideShapes Go.ChangeAt Go.RowKit
set_option linter.unusedSimpArgs false
set_option linter.unusedVariables false
namespace LawRestOf
set_option maxHeartbeats 8000000 in
theorem walk (A : Option Addr) (n c : Nat) (w : World) (h : BytesIn w w.heap.size A n) (hnc : n ≤ c) (hm : n ≤ 9223372036854775807) :
    Calls Try.prog 6 #[.slice A n c] w (BoolB true w) := by
  have HBY := Lib.hid h
  clear h
  have EB := Lib.hid (Below.refl w.heap.size w)
  by_cases hbig : (1048576 : Int) < (n : Int)
  · go_enter Try.func6, Try.ntmps6
    go_wp2
    go_ret
    exact ⟨rfl, Below.refl _ _⟩
  go_enter Try.func6, Try.ntmps6
  go_wp2_with fail
  refine (DrawRestOf_any HBY.out (by omega) hnc).mono ?_
  rintro e w1 ⟨Ad, nd, cd, Ad', nd', cd', Dd, Sd, pd, qd, rfl, ⟨hcd, hcd'⟩, hb, hd, hd', ⟨hnd, hnd'⟩, hpd, hqd⟩
  (try simp only [World.size_alloc, World.size_setCell, World.size_drew] at hb)
  have HB := Lib.hid hb
  clear hb
  have s1 := HB.out.size
  (try simp only [World.size_alloc, World.size_setCell, World.size_drew] at s1)
  replace EB := Lib.hid (below_step HB.out EB.out (by omega))
  clear HB
  have d1 := Lib.hid hd
  have d2 := Lib.hid hd'
  clear hd hd' HBY
  go_wp2_with fail
  replace d1 := Lib.hid (d1.out.alloc (by omega) (.cells #[.slice Ad nd cd, .int .i64 (pd), .slice Ad' nd' cd', .int .i64 (qd)] 25))
  replace d2 := Lib.hid (d2.out.alloc (by omega) (.cells #[.slice Ad nd cd, .int .i64 (pd), .slice Ad' nd' cd', .int .i64 (qd)] 25))
  replace EB := Lib.hid (EB.out.alloc (by omega) (.cells #[.slice Ad nd cd, .int .i64 (pd), .slice Ad' nd' cd', .int .i64 (qd)] 25))
  have Bd := Lib.hid (Box.new w1 25 [.slice Ad nd cd, .int .i64 (pd), .slice Ad' nd' cd', .int .i64 (qd)])
  have s2 : w1.heap.size + 1 ≤ (w1.alloc (.cells #[.slice Ad nd cd, .int .i64 (pd), .slice Ad' nd' cd', .int .i64 (qd)] 25)).heap.size := by simp
  generalize w1.alloc (.cells #[.slice Ad nd cd, .int .i64 (pd), .slice Ad' nd' cd', .int .i64 (qd)] 25) = w2 at *
  cases hv : validD Dd pd Sd qd
  · refine (to_list (RestOf_x d1.out d2.out (by omega) (by omega) hcd hcd' (by omega) (by omega)) (rest_none hv)).mono ?_
    rintro e w3 ⟨Ar, nr, cr, rfl, hcr, hb, hl⟩
    (try simp only [World.size_alloc, World.size_setCell, World.size_drew] at hb)
    have HB := Lib.hid hb
    clear hb
    have s3 := HB.out.size
    (try simp only [World.size_alloc, World.size_setCell, World.size_drew] at s3)
    replace d1 := Lib.hid (d1.out.below HB.out (by omega))
    replace d2 := Lib.hid (d2.out.below HB.out (by omega))
    replace Bd := Lib.hid (Bd.out.below HB.out (by omega))
    replace EB := Lib.hid (below_step HB.out EB.out (by omega))
    clear HB
    have r1 := Lib.hid hl
    clear hl
    have vdl := Bd.out.lt
    have vd0 := (Bd.out.2 0 _ rfl).1
    have vd1 := (Bd.out.2 1 _ rfl).1
    have vd2 := (Bd.out.2 2 _ rfl).1
    have vd3 := (Bd.out.2 3 _ rfl).1
    go_wp2_with fail
    refine (to_list (SRestOf_x d1.out d2.out (by omega) (by omega) hcd hcd' (by omega) (by omega)) (rest_none hv)).mono ?_
    clear vdl vd0 vd1 vd2 vd3
    rintro e w4 ⟨As, ns, cs, rfl, hcs, hb, hl⟩
    (try simp only [World.size_alloc, World.size_setCell, World.size_drew] at hb)
    have HB := Lib.hid hb
    clear hb
    have s4 := HB.out.size
    (try simp only [World.size_alloc, World.size_setCell, World.size_drew] at s4)
    replace d1 := Lib.hid (d1.out.below HB.out (by omega))
    replace d2 := Lib.hid (d2.out.below HB.out (by omega))
    replace Bd := Lib.hid (Bd.out.below HB.out (by omega))
    replace r1 := Lib.hid (r1.out.below HB.out (by omega))
    replace EB := Lib.hid (below_step HB.out EB.out (by omega))
    clear HB
    have s1 := Lib.hid hl
    clear hl
    go_wp2_with fail
    refine (equalInts_same r1.out s1.out rfl).mono ?_
    rintro e w5 ⟨rfl, hb⟩
    (try simp only [World.size_alloc, World.size_setCell, World.size_drew] at hb)
    have HB := Lib.hid hb
    clear hb
    have s5 := HB.out.size
    (try simp only [World.size_alloc, World.size_setCell, World.size_drew] at s5)
    replace d1 := Lib.hid (d1.out.below HB.out (by omega))
    replace d2 := Lib.hid (d2.out.below HB.out (by omega))
    replace Bd := Lib.hid (Bd.out.below HB.out (by omega))
    replace r1 := Lib.hid (r1.out.below HB.out (by omega))
    replace s1 := Lib.hid (s1.out.below HB.out (by omega))
    replace EB := Lib.hid (below_step HB.out EB.out (by omega))
    clear HB
    have vdl := Bd.out.lt
    have vd0 := (Bd.out.2 0 _ rfl).1
    have vd1 := (Bd.out.2 1 _ rfl).1
    have vd2 := (Bd.out.2 2 _ rfl).1
    have vd3 := (Bd.out.2 3 _ rfl).1
    go_wp2_with fail
    refine (to_bool (ValidDevice_any d1.out d2.out (by omega) (by omega)) hv).mono ?_
    clear vdl vd0 vd1 vd2 vd3
    rintro e w6 ⟨rfl, hb⟩
    (try simp only [World.size_alloc, World.size_setCell, World.size_drew] at hb)
    have HB := Lib.hid hb
    clear hb
    have s6 := HB.out.size
    (try simp only [World.size_alloc, World.size_setCell, World.size_drew] at s6)
    replace d1 := Lib.hid (d1.out.below HB.out (by omega))
    replace d2 := Lib.hid (d2.out.below HB.out (by omega))
    replace Bd := Lib.hid (Bd.out.below HB.out (by omega))
    replace r1 := Lib.hid (r1.out.below HB.out (by omega))
    replace s1 := Lib.hid (s1.out.below HB.out (by omega))
    replace EB := Lib.hid (below_step HB.out EB.out (by omega))
    clear HB
    have vdl := Bd.out.lt
    have vd0 := (Bd.out.2 0 _ rfl).1
    have vd1 := (Bd.out.2 1 _ rfl).1
    have vd2 := (Bd.out.2 2 _ rfl).1
    have vd3 := (Bd.out.2 3 _ rfl).1
    go_wp2_with fail
    refine (to_list (SRestOf_x d1.out d2.out (by omega) (by omega) hcd hcd' (by omega) (by omega)) (rest_none hv)).mono ?_
    clear vdl vd0 vd1 vd2 vd3
    rintro e w7 ⟨At, nt, ct, rfl, hct, hb, hl⟩
    (try simp only [World.size_alloc, World.size_setCell, World.size_drew] at hb)
    have HB := Lib.hid hb
    clear hb
    have s7 := HB.out.size
    (try simp only [World.size_alloc, World.size_setCell, World.size_drew] at s7)
    replace d1 := Lib.hid (d1.out.below HB.out (by omega))
    replace d2 := Lib.hid (d2.out.below HB.out (by omega))
    replace Bd := Lib.hid (Bd.out.below HB.out (by omega))
    replace r1 := Lib.hid (r1.out.below HB.out (by omega))
    replace s1 := Lib.hid (s1.out.below HB.out (by omega))
    replace EB := Lib.hid (below_step HB.out EB.out (by omega))
    clear HB
    have t1 := Lib.hid hl
    clear hl
    go_wp2_with fail
    refine (equalInts_same r1.out t1.out rfl).mono ?_
    rintro e w8 ⟨rfl, hb⟩
    (try simp only [World.size_alloc, World.size_setCell, World.size_drew] at hb)
    have HB := Lib.hid hb
    clear hb
    have s8 := HB.out.size
    (try simp only [World.size_alloc, World.size_setCell, World.size_drew] at s8)
    replace d1 := Lib.hid (d1.out.below HB.out (by omega))
    replace d2 := Lib.hid (d2.out.below HB.out (by omega))
    replace Bd := Lib.hid (Bd.out.below HB.out (by omega))
    replace r1 := Lib.hid (r1.out.below HB.out (by omega))
    replace s1 := Lib.hid (s1.out.below HB.out (by omega))
    replace t1 := Lib.hid (t1.out.below HB.out (by omega))
    replace EB := Lib.hid (below_step HB.out EB.out (by omega))
    clear HB
    go_wp2
    go_ret
    exact ⟨rfl, EB.out⟩
  · refine (to_list (RestOf_x d1.out d2.out (by omega) (by omega) hcd hcd' (by omega) (by omega)) (rest_of hv)).mono ?_
    rintro e w3 ⟨Ar, nr, cr, rfl, hcr, hb, hl⟩
    (try simp only [World.size_alloc, World.size_setCell, World.size_drew] at hb)
    have HB := Lib.hid hb
    clear hb
    have s3 := HB.out.size
    (try simp only [World.size_alloc, World.size_setCell, World.size_drew] at s3)
    replace d1 := Lib.hid (d1.out.below HB.out (by omega))
    replace d2 := Lib.hid (d2.out.below HB.out (by omega))
    replace Bd := Lib.hid (Bd.out.below HB.out (by omega))
    replace EB := Lib.hid (below_step HB.out EB.out (by omega))
    clear HB
    have r1 := Lib.hid hl
    clear hl
    have vdl := Bd.out.lt
    have vd0 := (Bd.out.2 0 _ rfl).1
    have vd1 := (Bd.out.2 1 _ rfl).1
    have vd2 := (Bd.out.2 2 _ rfl).1
    have vd3 := (Bd.out.2 3 _ rfl).1
    go_wp2_with fail
    refine (to_list (SRestOf_x d1.out d2.out (by omega) (by omega) hcd hcd' (by omega) (by omega)) (rest_of hv)).mono ?_
    clear vdl vd0 vd1 vd2 vd3
    rintro e w4 ⟨As, ns, cs, rfl, hcs, hb, hl⟩
    (try simp only [World.size_alloc, World.size_setCell, World.size_drew] at hb)
    have HB := Lib.hid hb
    clear hb
    have s4 := HB.out.size
    (try simp only [World.size_alloc, World.size_setCell, World.size_drew] at s4)
    replace d1 := Lib.hid (d1.out.below HB.out (by omega))
    replace d2 := Lib.hid (d2.out.below HB.out (by omega))
    replace Bd := Lib.hid (Bd.out.below HB.out (by omega))
    replace r1 := Lib.hid (r1.out.below HB.out (by omega))
    replace EB := Lib.hid (below_step HB.out EB.out (by omega))
    clear HB
    have s1 := Lib.hid hl
    clear hl
    go_wp2_with fail
    refine (equalInts_same r1.out s1.out rfl).mono ?_
    rintro e w5 ⟨rfl, hb⟩
    (try simp only [World.size_alloc, World.size_setCell, World.size_drew] at hb)
    have HB := Lib.hid hb
    clear hb
    have s5 := HB.out.size
    (try simp only [World.size_alloc, World.size_setCell, World.size_drew] at s5)
    replace d1 := Lib.hid (d1.out.below HB.out (by omega))
    replace d2 := Lib.hid (d2.out.below HB.out (by omega))
    replace Bd := Lib.hid (Bd.out.below HB.out (by omega))
    replace r1 := Lib.hid (r1.out.below HB.out (by omega))
    replace s1 := Lib.hid (s1.out.below HB.out (by omega))
    replace EB := Lib.hid (below_step HB.out EB.out (by omega))
    clear HB
    have vdl := Bd.out.lt
    have vd0 := (Bd.out.2 0 _ rfl).1
    have vd1 := (Bd.out.2 1 _ rfl).1
    have vd2 := (Bd.out.2 2 _ rfl).1
    have vd3 := (Bd.out.2 3 _ rfl).1
    go_wp2_with fail
    refine (to_bool (ValidDevice_any d1.out d2.out (by omega) (by omega)) hv).mono ?_
    clear vdl vd0 vd1 vd2 vd3
    rintro e w6 ⟨rfl, hb⟩
    (try simp only [World.size_alloc, World.size_setCell, World.size_drew] at hb)
    have HB := Lib.hid hb
    clear hb
    have s6 := HB.out.size
    (try simp only [World.size_alloc, World.size_setCell, World.size_drew] at s6)
    replace d1 := Lib.hid (d1.out.below HB.out (by omega))
    replace d2 := Lib.hid (d2.out.below HB.out (by omega))
    replace Bd := Lib.hid (Bd.out.below HB.out (by omega))
    replace r1 := Lib.hid (r1.out.below HB.out (by omega))
    replace s1 := Lib.hid (s1.out.below HB.out (by omega))
    replace EB := Lib.hid (below_step HB.out EB.out (by omega))
    clear HB
    have hpp := (validD_iff.1 hv).2.2.2.1
    have hlr : nr = nd - pd.toNat := by have h1 := r1.out.len; have h2 := d1.out.len; rw [List.length_drop] at h1; omega
    have JE := Lib.hid (join_rest d1.out.len hlr)
    have HLR := Lib.hid hlr
    clear hlr
    have hw1 : IntKind.i64.wrap ((nd : Int) - pd) = (nd : Int) - pd := IntWalk.i64_in _ (by omega)
    by_cases hpn : pd < (nd : Int)
    · have hnrd : nr ≤ nd := by have := HLR.out; omega
      obtain ⟨m, hm2⟩ : ∃ m : Nat, m = nd - nr := ⟨_, rfl⟩
      have hw2 : IntKind.i64.wrap ((nd : Int) - (nr : Int)) = (m : Int) := by rw [IntWalk.i64_in _ (by omega)]; omega
      have hmx : ((nr : Int) == (nd : Int) - pd) = true := by have := HLR.out; rw [beq_iff_eq]; omega
      have hmc : (m : Int) ≤ (cd : Int) := by omega
      have hmd : m ≤ nd := by omega
      have JM : Hid (Dd.take m ++ Dd.drop pd.toNat = Dd) := by show _ = _; rw [hm2]; exact JE.out
      clear hm2
      have vdl := Bd.out.lt
      have vd0 := (Bd.out.2 0 _ rfl).1
      have vd1 := (Bd.out.2 1 _ rfl).1
      have vd2 := (Bd.out.2 2 _ rfl).1
      have vd3 := (Bd.out.2 3 _ rfl).1
      go_wp2_with fail
      go_region_held3 (fun w' => (w'.cell? ⟨w1.heap.size, 0, none⟩ = some (.slice Ad nd cd) ∧ w'.cell? ⟨w1.heap.size, 1, none⟩ = some (.int .i64 (pd)) ∧ w'.cell? ⟨w1.heap.size, 2, none⟩ = some (.slice Ad' nd' cd') ∧ w'.cell? ⟨w1.heap.size, 3, none⟩ = some (.int .i64 (qd)))) (go_keep)
        (first | (go_at_call 26; (with_reducible refine (to_list (join_any (d1.out.drew.take hmd) r1.out.drew (by first | omega | (simp; omega) | (simp; done)) (by first | omega | (simp; omega) | (simp; done)) (by first | omega | (simp; omega) | (simp; done)) (by first | omega | (simp; omega) | (simp; done))) JM.out).mono ?_); rintro e wr0 ⟨Aj, nj, cj, rfl, hcj, hb, hl⟩; (try simp only [World.size_alloc, World.size_setCell, World.size_drew] at hb hl); have HR0 := Lib.hid hb; have sr0 := hb.size; (try simp only [World.size_alloc, World.size_setCell, World.size_drew] at sr0); have Yd0 := Lib.hid (Bd.out.drew.below hb (by omega)); have j1 := Lib.hid hl; clear hb hl; have vd0 := (Yd0.out.2 0 _ rfl).1; have vd1 := (Yd0.out.2 1 _ rfl).1; have vd2 := (Yd0.out.2 2 _ rfl).1; have vd3 := (Yd0.out.2 3 _ rfl).1) | (go_at_call 17; (with_reducible refine (equalInts_same j1.out (d1.out.drew.below HR0.out (by first | omega | (simp; omega) | (simp; done))) rfl).mono ?_); rintro e wr1 ⟨rfl, hb⟩; (try simp only [World.size_alloc, World.size_setCell, World.size_drew] at hb); have HR1 := Lib.hid hb; have sr1 := hb.size; (try simp only [World.size_alloc, World.size_setCell, World.size_drew] at sr1); have Yd1 := Lib.hid (Yd0.out.below hb (by omega)); clear hb; have vd0 := (Yd1.out.2 0 _ rfl).1; have vd1 := (Yd1.out.2 1 _ rfl).1; have vd2 := (Yd1.out.2 2 _ rfl).1; have vd3 := (Yd1.out.2 3 _ rfl).1))
      go_wp2
      go_ret
      exact ⟨rfl, (below_step HR1.out (below_step HR0.out EB.out.drew (by first | omega | (simp; omega) | (simp; done))) (by first | omega | (simp; omega) | (simp; done)))⟩
    · obtain rfl : nr = 0 := by have := HLR.out; omega
      have hm2 : nd = nd - 0 := rfl
      have hif : (if pd < (nd : Int) then (nd : Int) - pd else 0) = 0 := if_neg hpn
      have hw2 : IntKind.i64.wrap (nd : Int) = (nd : Int) := IntWalk.i64_in _ (by omega)
      have hmc : (nd : Int) ≤ (cd : Int) := by omega
      have hmd : nd ≤ nd := by omega
      have JM : Hid (Dd.take nd ++ Dd.drop pd.toNat = Dd) := by show _ = _; exact JE.out
      clear hm2
      have vdl := Bd.out.lt
      have vd0 := (Bd.out.2 0 _ rfl).1
      have vd1 := (Bd.out.2 1 _ rfl).1
      have vd2 := (Bd.out.2 2 _ rfl).1
      have vd3 := (Bd.out.2 3 _ rfl).1
      go_wp2_with fail
      go_region_held3 (fun w' => (w'.cell? ⟨w1.heap.size, 0, none⟩ = some (.slice Ad nd cd) ∧ w'.cell? ⟨w1.heap.size, 1, none⟩ = some (.int .i64 (pd)) ∧ w'.cell? ⟨w1.heap.size, 2, none⟩ = some (.slice Ad' nd' cd') ∧ w'.cell? ⟨w1.heap.size, 3, none⟩ = some (.int .i64 (qd)))) (go_keep)
        (first | (go_at_call 26; (with_reducible refine (to_list (join_any (d1.out.drew.take hmd) r1.out.drew (by first | omega | (simp; omega) | (simp; done)) (by first | omega | (simp; omega) | (simp; done)) (by first | omega | (simp; omega) | (simp; done)) (by first | omega | (simp; omega) | (simp; done))) JM.out).mono ?_); rintro e wr0 ⟨Aj, nj, cj, rfl, hcj, hb, hl⟩; (try simp only [World.size_alloc, World.size_setCell, World.size_drew] at hb hl); have HR0 := Lib.hid hb; have sr0 := hb.size; (try simp only [World.size_alloc, World.size_setCell, World.size_drew] at sr0); have Yd0 := Lib.hid (Bd.out.drew.below hb (by omega)); have j1 := Lib.hid hl; clear hb hl; have vd0 := (Yd0.out.2 0 _ rfl).1; have vd1 := (Yd0.out.2 1 _ rfl).1; have vd2 := (Yd0.out.2 2 _ rfl).1; have vd3 := (Yd0.out.2 3 _ rfl).1) | (go_at_call 17; (with_reducible refine (equalInts_same j1.out (d1.out.drew.below HR0.out (by first | omega | (simp; omega) | (simp; done))) rfl).mono ?_); rintro e wr1 ⟨rfl, hb⟩; (try simp only [World.size_alloc, World.size_setCell, World.size_drew] at hb); have HR1 := Lib.hid hb; have sr1 := hb.size; (try simp only [World.size_alloc, World.size_setCell, World.size_drew] at sr1); have Yd1 := Lib.hid (Yd0.out.below hb (by omega)); clear hb; have vd0 := (Yd1.out.2 0 _ rfl).1; have vd1 := (Yd1.out.2 1 _ rfl).1; have vd2 := (Yd1.out.2 2 _ rfl).1; have vd3 := (Yd1.out.2 3 _ rfl).1))
      go_wp2
      go_ret
      exact ⟨rfl, (below_step HR1.out (below_step HR0.out EB.out.drew (by first | omega | (simp; omega) | (simp; done))) (by first | omega | (simp; omega) | (simp; done)))⟩

theorem contract (H : Type) (enc : TypeId × Value → H) (W : World) (base : Nat) (args : Array Value) (ds gs : List (DataW H)) (before : List MemPlace)
    (hval : ∀ (j : Nat) t v, Try.f6.params[j]? = some t → args[j]? = some v → Value.okWide Try.prog W .any base t v)
    (hW : DataW.Whole enc Try.prog Try.f6.params.toList Rows.fnRestOfSpec.vars false W args.toList ds gs before) :
    Calls Try.prog 6 args W fun e W' => ∃ v, e = .returned v ∧ Rows.fnRestOfSpec.post enc Try.prog Try.f6 false true false false W args v W' := by
  have hW' := hW
  have hlt : ∀ p ∈ before, p.block < W.heap.size := fun p hp => hW.lt p hp
  obtain ⟨p, q, hA0, hV, rfl, hfz, hnd⟩ := hW
  have hA : DataW.TrodAll enc Try.prog W 0 (fun _ => true) true Try.f6.params.toList args.toList ds p := hA0
  rw [Try.params6] at hA hval
  obtain ⟨v0, vs0, d0, ds0, p0, q0, hargs, rfl, rfl, h0, r0⟩ := trodAll_cons hA
  obtain ⟨rfl, rfl, rfl⟩ := trodAll_nil r0
  obtain rfl : args = #[v0] := by cases args; simp_all
  obtain ⟨rfl, rfl⟩ := trodVars_none hV
  obtain ⟨A, n, c, rfl, hnc, hby, hmx⟩ := arg_bytes (hval 0 _ v0 rfl rfl) h0 (fun p hp => hlt p (by simp [hp]))
  refine (walk A n c W hby hnc hmx).mono fun e W' hh => ?_
  obtain ⟨rfl, hb⟩ := hh
  exact ⟨_, rfl, law_post laidOut (tys_of (by rw [Try.params6]; kernel_rfl)) hW' rfl rfl rfl Try.underlying4 hb⟩

set_option maxRecDepth 100000 in
theorem lifted (os : Os) (started : os.Started) (H : Type) (enc : TypeId × Value → H) :
    ReturnsInHanded {} Try.checked os 6 .any (Rows.fnRestOfSpec.pre6 enc Try.prog Try.f6 Rows.fnRestOfRow.domain false) (Rows.fnRestOfSpec.post enc Try.prog Try.f6 false true false false) := by
  refine returnsInHanded_of_change (C := Try.checked) own started (by kernel_rfl) Try.func6
    (ChangeSpec.witness6 (C := Try.checked) false ⟨#[], #[.slice none 0 0], []⟩ 8 (by kernel_rfl) (by kernel_rfl) (by kernel_rfl) (by kernel_rfl)) ?_
  intro W base args ds gs before hval hW _ _
  exact contract H enc W base args ds gs before hval hW

theorem holds : Rows.FnRestOfSaid :=
  OpenClaim.holds_of_wide 6 Try.f6 rfl rfl rfl rfl rfl rfl rfl ⟨rfl, rfl, rfl, rfl, rfl⟩ rfl rfl rfl rfl rfl (by kernel_rfl) Try.func6 (by kernel_rfl)
    (of_decide_eq_true (by kernel_rfl)) (by unfold Func.isWrapper; first | (rw [if_pos (by decide +kernel)]; kernel_rfl) | (rw [if_neg (by decide +kernel)]; exact ⟨rfl, rfl⟩))
    (fun os started H enc _ => lifted os started H enc)
end LawRestOf
end Go.Proofs.Ytlincjmiimmmeaa
