/- The law of promise 17: two readings of a smooth device, one after the other, give what one gives. No conditions. -/
import Derived.Test.YtmjmplfhedknhaaH1
import Derived.Test.YtmjmplfhedknhaaH3
import Derived.Test.YtmjmplfhedknhaaS2g
set_option maxRecDepth 10000
namespace Go.Proofs.Ytmjmplfhedknhaa
open Go.ChangeShapes Go.WideShapes Go.ChangeAt Go.RowKit
set_option linter.unusedSimpArgs false
set_option linter.unusedVariables false
namespace LawReadFullTwice
theorem fullGo_st {D S : List Int} {z : Int} {N : Nat} : ∀ (f : Nat) (p : Int) (a : Nat) (R out : List Int), ¬ (fullGo D S z N f p a R out).st = 5 := by
  intro f
  induction f with
  | zero => intro p a R out; simp [fullGo]
  | succ f ih =>
    intro p a R out
    simp only [fullGo]
    split
    · simp
    · split
      · exact ih _ _ _ _
      · exact flS_not5 D S R p a
theorem rfull_no {D S R : List Int} {p q z N : Int} (h : (goodR D p S q R z && inB N 0 60) = false) : fullOut D p S q R z N = (⟨[], 0, [], 0, [], 0⟩, [], 5) := by
  unfold fullOut; rw [h]; rfl
theorem rfull_yes {D S R : List Int} {p q z N : Int} (h : (goodR D p S q R z && inB N 0 60) = true) : ∃ (t : Nat) (P Q : Int) (R1 L : List Int) (st : Int),
    fullOut D p S q R z N = (⟨D, P, S, Q, R1, z⟩, L, st) ∧ ¬ st = 5 ∧ tellOut D p S q R z = (t : Int) ∧ R ++ restL D p S q = D.drop t ∧ validR D P S Q R1 z = true ∧ tellOut D P S Q R1 z = (t : Int) + (L.length : Int) ∧ R1 ++ restL D P S Q = (D.drop t).drop L.length ∧ R1.length ≤ 16 ∧ L.isPrefixOf (D.drop t) = true ∧ (L.length : Int) ≤ N ∧
    ((st = 0 ∧ (L.length : Int) = N) ∨ (¬ st = 0 ∧ (L.length : Int) < N)) := by
  have h0 := h
  rw [Bool.and_eq_true] at h
  obtain ⟨hg, hN⟩ := h
  obtain ⟨t, hat, hv, hqq, hq9, hz, hRz, htl, hah⟩ := good_at hg
  have hN2 : 0 ≤ N ∧ N ≤ 60 := by simpa [inB] using hN
  obtain ⟨hvr, _⟩ := goodR_iff.1 hg
  have hk := start_ok hvr
  have hinv := fullGo_inv (N := N.toNat) hz.1 62 p q.toNat R [] hv (by simpa using hk) (by simp; omega)
  have h5 := fullGo_st (D := D) (S := S) (z := z) (N := N.toNat) 62 p q.toNat R []
  obtain ⟨m, h1, h2, h3, h4, h6, h7, h8, _, _⟩ := fullGo_at (N := N.toNat) hz.1 62 p q.toNat R [] t hv (by omega) hat hRz (by simp) (by simp; omega)
  have ho : fullOut D p S q R z N = rsOut D S z (fullGo D S z N.toNat 62 p q.toNat R []) := by unfold fullOut; rw [h0]; rfl
  generalize fullGo D S z N.toNat 62 p q.toNat R [] = o at *
  have hgv : Gave D S z t (t + m) o.p (o.a : Int) o.r := h1.gave hinv.1 hz h4
  have hL : o.out = (D.drop t).take m := by rw [h2]; rfl
  have hm : o.out.length = m := by rw [hL, List.length_take]; omega
  simp only [List.length_nil, Nat.zero_add] at h6 h7 h8
  refine ⟨t, o.p, (o.a : Int), o.r, o.out, o.st, ho, h5, htl, hah, hgv.1, ?_, ?_, hgv.2.2.2, ?_, by omega, ?_⟩
  · rw [hgv.2.1, hm]; omega
  · rw [hgv.2.2.1, hm, List.drop_drop]
  · rw [hL]; exact take_pre _ _
  · by_cases hst : o.st = 0
    · exact .inl ⟨hst, by have := h7 hst; omega⟩
    · exact .inr ⟨hst, by have := h8 hst; omega⟩
theorem rrest_no {D S R : List Int} {p q z : Int} (h : goodR D p S q R z = false) : restOut D p S q R z = (⟨[], 0, [], 0, [], 0⟩, [], 5) := by
  unfold restOut; rw [h]; rfl
theorem rrest_yes {D S R : List Int} {p q z : Int} (hg : goodR D p S q R z = true) : ∃ (t : Nat) (P Q : Int) (R1 L : List Int) (st : Int),
    restOut D p S q R z = (⟨D, P, S, Q, R1, z⟩, L, st) ∧ ¬ st = 5 ∧ ¬ st = 0 ∧ R ++ restL D p S q = D.drop t ∧ R1.length ≤ 16 ∧ L.isPrefixOf (D.drop t) = true ∧
    (st = 1 → R1 ++ restL D P S Q = [] ∧ L = D.drop t) ∧ ((validD D p S q && smoothB S q.toNat) = true → st = 1) := by
  obtain ⟨t, hat, hv, hqq, hq9, hz, hRz, htl, hah⟩ := good_at hg
  obtain ⟨hvr, _⟩ := goodR_iff.1 hg
  have hk := start_ok hvr
  have hinv := fullGo_inv (N := 61) hz.1 62 p q.toNat R [] hv (by simpa using hk) (by simp; omega)
  have h5 := fullGo_st (D := D) (S := S) (z := z) (N := 61) 62 p q.toNat R []
  obtain ⟨m, h1, h2, h3, h4, h6, h7, h8, h9, h10⟩ := fullGo_at (N := 61) hz.1 62 p q.toNat R [] t hv (by omega) hat hRz (by simp) (by simp)
  have ho : restOut D p S q R z = rsOut D S z (fullGo D S z 61 62 p q.toNat R []) := by unfold restOut; rw [hg]; rfl
  generalize fullGo D S z 61 62 p q.toNat R [] = o at *
  have hgv : Gave D S z t (t + m) o.p (o.a : Int) o.r := h1.gave hinv.1 hz h4
  have hL : o.out = (D.drop t).take m := by rw [h2]; rfl
  have hD := bytesB_le (validD_iff.1 hv).1
  have h0 : ¬ o.st = 0 := fun e => by
    have a1 := h7 e
    simp only [List.length_nil] at a1
    rw [List.length_drop] at h3
    omega
  refine ⟨t, o.p, (o.a : Int), o.r, o.out, o.st, ho, h5, h0, hah, hgv.2.2.2, by rw [hL]; exact take_pre _ _, fun e => ?_, fun e => ?_⟩
  · have a1 := h9 e
    exact ⟨by rw [hgv.2.2.1]; exact List.drop_eq_nil_of_le a1, by rw [hL]; exact List.take_of_length_le (by rw [List.length_drop]; omega)⟩
  · rcases h10 (Bool.and_eq_true_iff.1 e).2 with a1 | a1
    · exact absurd a1 h0
    · exact a1
theorem fullGo_sm {D S : List Int} {z : Int} {N : Nat} : ∀ (f : Nat) (p : Int) (a : Nat) (R out : List Int), smoothB S a = true → smoothB S (fullGo D S z N f p a R out).a = true := by
  intro f
  induction f with
  | zero => intro p a R out h; simpa [fullGo] using h
  | succ f ih =>
    intro p a R out h
    simp only [fullGo]
    split
    · exact h
    · split
      · exact ih _ _ _ _ (smooth_fl h)
      · exact smooth_fl h
theorem rfull_all {D S R : List Int} {p q z N : Int} (h : (goodR D p S q R z && inB N 0 60) = true) : ∃ (t : Nat) (P Q : Int) (R1 L : List Int) (st : Int),
    fullOut D p S q R z N = (⟨D, P, S, Q, R1, z⟩, L, st) ∧ ¬ st = 5 ∧ 0 ≤ N ∧ R ++ restL D p S q = D.drop t ∧ validR D P S Q R1 z = true ∧ R1 ++ restL D P S Q = (D.drop t).drop L.length ∧ R1.length ≤ 16 ∧ (L.length : Int) ≤ N ∧
    ((validD D p S q && smoothB S q.toNat) = true → (N ≤ ((D.drop t).length : Int) → st = 0 ∧ L = (D.drop t).take N.toNat) ∧ (¬ N ≤ ((D.drop t).length : Int) → st = 1 ∧ L = D.drop t)) ∧ (smoothB S q.toNat = true → smoothB S Q.toNat = true) ∧ (L.length ≤ 60 ∧ D.length ≤ 60 ∧ S.length ≤ 60) := by
  have h0 := h
  rw [Bool.and_eq_true] at h
  obtain ⟨hg, hN⟩ := h
  obtain ⟨t, hat, hv, hqq, hq9, hz, hRz, htl, hah⟩ := good_at hg
  have hN2 : 0 ≤ N ∧ N ≤ 60 := by simpa [inB] using hN
  obtain ⟨hvr, _⟩ := goodR_iff.1 hg
  have hk := start_ok hvr
  have hlen := fullOut_le D p S q R z N
  have hinv := fullGo_inv (N := N.toNat) hz.1 62 p q.toNat R [] hv (by simpa using hk) (by simp; omega)
  have h5 := fullGo_st (D := D) (S := S) (z := z) (N := N.toNat) 62 p q.toNat R []
  have hsm := fullGo_sm (D := D) (S := S) (z := z) (N := N.toNat) 62 p q.toNat R []
  obtain ⟨m, h1, h2, h3, h4, h6, h7, h8, h9, h10⟩ := fullGo_at (N := N.toNat) hz.1 62 p q.toNat R [] t hv (by omega) hat hRz (by simp) (by simp; omega)
  have ho : fullOut D p S q R z N = rsOut D S z (fullGo D S z N.toNat 62 p q.toNat R []) := by unfold fullOut; rw [h0]; rfl
  rw [ho] at hlen
  generalize fullGo D S z N.toNat 62 p q.toNat R [] = o at *
  have hgv : Gave D S z t (t + m) o.p (o.a : Int) o.r := h1.gave hinv.1 hz h4
  have hL : o.out = (D.drop t).take m := by rw [h2]; rfl
  have hm : o.out.length = m := by rw [hL, List.length_take]; omega
  simp only [List.length_nil, Nat.zero_add] at h6 h7 h8
  have hdl : (D.drop t).length = D.length - t := List.length_drop ..
  refine ⟨t, o.p, (o.a : Int), o.r, o.out, o.st, ho, h5, hN2.1, hah, hgv.1, ?_, hgv.2.2.2, by omega, fun e => ⟨fun hle => ?_, fun hle => ?_⟩, fun e => by rw [Int.toNat_natCast]; exact hsm e, ⟨hlen.2.2.2, hlen.1, hlen.2.1⟩⟩
  · rw [hgv.2.2.1, hm, List.drop_drop]
  · rcases h10 (Bool.and_eq_true_iff.1 e).2 with a1 | a1
    · have a2 := h7 a1
      exact ⟨a1, by rw [hL, a2]⟩
    · have a2 := (h8 (by omega)).1
      have a3 := h9 a1
      omega
  · rcases h10 (Bool.and_eq_true_iff.1 e).2 with a1 | a1
    · have a2 := h7 a1
      omega
    · have a3 := h9 a1
      exact ⟨a1, by rw [hL]; exact List.take_of_length_le (by omega)⟩
/-- Two readings give what one gives. -/
theorem rfull_twice {D S R : List Int} {p q z : Int} {N K : Nat} (h : (goodR D p S q R z && inB (N : Int) 0 60) = true) (hs : (validD D p S q && smoothB S q.toNat) = true) (hK : K ≤ N) : ∃ (P Q : Int) (R1 L : List Int) (st : Int),
    fullOut D p S q R z (N : Int) = (⟨D, P, S, Q, R1, z⟩, L, st) ∧ ¬ st = 5 ∧ R1.length ≤ 16 ∧ ∃ (P1 Q1 : Int) (R2 L1 : List Int) (st1 : Int),
    fullOut D p S q R z (K : Int) = (⟨D, P1, S, Q1, R2, z⟩, L1, st1) ∧ R2.length ≤ 16 ∧ L1.length ≤ 60 ∧ ((¬ st1 = 0 ∧ (L1.length : Int) < (K : Int)) ∨ (st1 = 0 ∧ (Q1 ≤ 900 → ∃ (P2 Q2 : Int) (R3 L2 : List Int),
      fullOut D P1 S Q1 R2 z ((N : Int) - (K : Int)) = (⟨D, P2, S, Q2, R3, z⟩, L2, st) ∧ L2.length ≤ 60 ∧ L1 ++ L2 = L))) := by
  have h0 := h
  rw [Bool.and_eq_true] at h
  obtain ⟨hg, hN⟩ := h
  have hN2 : (0 : Int) ≤ N ∧ (N : Int) ≤ 60 := by simpa [inB] using hN
  have hKk : (goodR D p S q R z && inB (K : Int) 0 60) = true := by rw [hg]; simp [inB]; omega
  obtain ⟨t, P, Q, R1, L, st, ho, h5, _, hah, _, _, hr, _, hsm, _, _⟩ := rfull_all h0
  obtain ⟨t1, P1, Q1, R2, L1, st1, ho1, h51, _, hah1, hv1, hax1, hr1, hle1, hsm1, hq1, hl1, hd1, hs1⟩ := rfull_all hKk
  have het : D.drop t1 = D.drop t := by rw [← hah1, hah]
  rw [het] at hax1 hsm1
  obtain ⟨hy1, hn1⟩ := hsm hs
  obtain ⟨hy2, hn2⟩ := hsm1 hs
  rw [Int.toNat_natCast] at hy1 hy2
  have hvs : validD D p S q = true ∧ smoothB S q.toNat = true := Bool.and_eq_true_iff.1 hs
  refine ⟨P, Q, R1, L, st, ho, h5, hr, P1, Q1, R2, L1, st1, ho1, hr1, hl1, ?_⟩
  by_cases hk : (K : Int) ≤ ((D.drop t).length : Int)
  · obtain ⟨e1, e2⟩ := hy2 hk
    refine .inr ⟨e1, fun hq9 => ?_⟩
    have hg2 : (goodR D P1 S Q1 R2 z && inB ((N : Int) - (K : Int)) 0 60) = true := by
      rw [show goodR D P1 S Q1 R2 z = true from goodR_iff.2 ⟨hv1, hq9⟩]; simp [inB]; omega
    obtain ⟨t2, P2, Q2, R3, L2, st2, ho2, h52, _, hah2, _, _, _, _, hsm2, _, hl2, _, _⟩ := rfull_all hg2
    have hlen1 : L1.length = K := by rw [e2, List.length_take]; omega
    rw [hax1, hlen1] at hah2
    have hvd1 := (validR_iff.1 hv1).1
    obtain ⟨hy3, hn3⟩ := hsm2 (by rw [hvd1, hq1 hvs.2]; rfl)
    rw [← hah2] at hy3 hn3
    have hld : (((D.drop t).drop K).length : Int) = ((D.drop t).length : Int) - (K : Int) := by rw [List.length_drop]; omega
    rw [hld] at hy3 hn3
    by_cases hn : (N : Int) ≤ ((D.drop t).length : Int)
    · obtain ⟨f1, f2⟩ := hy1 hn
      obtain ⟨f3, f4⟩ := hy3 (by omega)
      subst f1; subst f3
      refine ⟨P2, Q2, R3, L2, ho2, hl2, ?_⟩
      rw [f4, e2, f2, show ((N : Int) - (K : Int)).toNat = N - K by omega]
      conv => rhs; rw [show N = K + (N - K) by omega, List.take_add]
    · obtain ⟨f1, f2⟩ := hn1 hn
      obtain ⟨f3, f4⟩ := hn3 (by omega)
      subst f1; subst f3
      refine ⟨P2, Q2, R3, L2, ho2, hl2, ?_⟩
      rw [f4, e2, f2, List.take_append_drop]
  · obtain ⟨e1, e2⟩ := hn2 hk
    refine .inl ⟨by omega, ?_⟩
    rw [e2]; omega
set_option maxHeartbeats 8000000 in
theorem walk (A : Option Addr) (n c : Nat) (w : World) (h : BytesIn w w.heap.size A n) (hnc : n ≤ c) (hm : n ≤ 9223372036854775807) :
    Calls Try.prog 4 #[.slice A n c] w (BoolB true w) := by
  have HBY := Lib.hid h
  clear h
  have EB := Lib.hid (Below.refl w.heap.size w)
  by_cases hbig : (1048576 : Int) < (n : Int)
  · go_enter Try.func4, Try.ntmps4
    go_wp2
    go_ret
    exact ⟨rfl, Below.refl _ _⟩
  go_enter Try.func4, Try.ntmps4
  go_wp2_with fail
  refine (DrawReadFull_any HBY.out (by omega) hnc).mono ?_
  rintro e w1 ⟨Ad, nd, cd, Ad', nd', cd', Ed, md, kd, Dd, Sd, Rd, pd, qd, yd, zn, rfl, ⟨⟨hcd, hcd', hkd⟩, ⟨hnd, hnd', hmd⟩, hpd, hqd, hyd, hb, hd, hd', hr⟩, hzn⟩
  (try simp only [World.size_alloc, World.size_setCell, World.size_drew] at hb)
  have HB := Lib.hid hb
  clear hb
  have s1 := HB.out.size
  (try simp only [World.size_alloc, World.size_setCell, World.size_drew] at s1)
  replace EB := Lib.hid (below_step HB.out EB.out (by omega))
  clear HB
  clear HBY
  have d1 := Lib.hid hd
  have d2 := Lib.hid hd'
  have d3 := Lib.hid hr
  clear hd hd' hr
  go_wp2_with fail
  replace d1 := Lib.hid (d1.out.alloc (by omega) (.cells #[.slice Ad nd cd, .int .i64 (pd), .slice Ad' nd' cd', .int .i64 (qd), .slice Ed md kd, .int .i64 (yd)] 27))
  replace d2 := Lib.hid (d2.out.alloc (by omega) (.cells #[.slice Ad nd cd, .int .i64 (pd), .slice Ad' nd' cd', .int .i64 (qd), .slice Ed md kd, .int .i64 (yd)] 27))
  replace d3 := Lib.hid (d3.out.alloc (by omega) (.cells #[.slice Ad nd cd, .int .i64 (pd), .slice Ad' nd' cd', .int .i64 (qd), .slice Ed md kd, .int .i64 (yd)] 27))
  replace EB := Lib.hid (EB.out.alloc (by omega) (.cells #[.slice Ad nd cd, .int .i64 (pd), .slice Ad' nd' cd', .int .i64 (qd), .slice Ed md kd, .int .i64 (yd)] 27))
  have Bd := Lib.hid (Box.new w1 27 [.slice Ad nd cd, .int .i64 (pd), .slice Ad' nd' cd', .int .i64 (qd), .slice Ed md kd, .int .i64 (yd)])
  have s2 : w1.heap.size + 1 ≤ (w1.alloc (.cells #[.slice Ad nd cd, .int .i64 (pd), .slice Ad' nd' cd', .int .i64 (qd), .slice Ed md kd, .int .i64 (yd)] 27)).heap.size := by simp
  generalize w1.alloc (.cells #[.slice Ad nd cd, .int .i64 (pd), .slice Ad' nd' cd', .int .i64 (qd), .slice Ed md kd, .int .i64 (yd)] 27) = w2 at *
  cases hg : (goodR Dd pd Sd qd Rd yd && inB zn 0 60)
  · refine (to_rli (ReadFull_x d1.out d2.out d3.out (by omega) (by omega) (by omega) hcd hcd' hkd (by omega) (by omega) (by omega) (by unfold okInt; omega)) (rfull_no hg)).mono ?_
    rintro e w3 ⟨Ax, nx, cx, Ax', nx', cx', Ex, mx, kx, Al, nl, cl, rfl, ⟨hcx, hcx', hkx, hcl⟩, hb, hd, hd', hr, hl⟩
    (try simp only [World.size_alloc, World.size_setCell, World.size_drew] at hb)
    have HB := Lib.hid hb
    clear hb
    have s3 := HB.out.size
    (try simp only [World.size_alloc, World.size_setCell, World.size_drew] at s3)
    replace d1 := Lib.hid (d1.out.below HB.out (by omega))
    replace d2 := Lib.hid (d2.out.below HB.out (by omega))
    replace d3 := Lib.hid (d3.out.below HB.out (by omega))
    replace Bd := Lib.hid (Bd.out.below HB.out (by omega))
    replace EB := Lib.hid (below_step HB.out EB.out (by omega))
    clear HB
    have l1 := Lib.hid hl
    have x1 := Lib.hid hd
    have x2 := Lib.hid hd'
    have x3 := Lib.hid hr
    clear hd hd' hr hl
    have vdl := Bd.out.lt
    have vd0 := (Bd.out.2 0 _ rfl).1
    have vd1 := (Bd.out.2 1 _ rfl).1
    have vd2 := (Bd.out.2 2 _ rfl).1
    have vd3 := (Bd.out.2 3 _ rfl).1
    have vd4 := (Bd.out.2 4 _ rfl).1
    have vd5 := (Bd.out.2 5 _ rfl).1
    go_wp2_with fail
    clear vdl vd0 vd1 vd2 vd3 vd4 vd5
    replace d1 := Lib.hid (d1.out.alloc (by omega) (.cells #[.slice Ax nx cx, .int .i64 (0), .slice Ax' nx' cx', .int .i64 (0), .slice Ex mx kx, .int .i64 (0)] 27))
    replace d2 := Lib.hid (d2.out.alloc (by omega) (.cells #[.slice Ax nx cx, .int .i64 (0), .slice Ax' nx' cx', .int .i64 (0), .slice Ex mx kx, .int .i64 (0)] 27))
    replace d3 := Lib.hid (d3.out.alloc (by omega) (.cells #[.slice Ax nx cx, .int .i64 (0), .slice Ax' nx' cx', .int .i64 (0), .slice Ex mx kx, .int .i64 (0)] 27))
    replace Bd := Lib.hid (Bd.out.alloc (.cells #[.slice Ax nx cx, .int .i64 (0), .slice Ax' nx' cx', .int .i64 (0), .slice Ex mx kx, .int .i64 (0)] 27))
    replace l1 := Lib.hid (l1.out.alloc (by omega) (.cells #[.slice Ax nx cx, .int .i64 (0), .slice Ax' nx' cx', .int .i64 (0), .slice Ex mx kx, .int .i64 (0)] 27))
    replace x1 := Lib.hid (x1.out.alloc (by omega) (.cells #[.slice Ax nx cx, .int .i64 (0), .slice Ax' nx' cx', .int .i64 (0), .slice Ex mx kx, .int .i64 (0)] 27))
    replace x2 := Lib.hid (x2.out.alloc (by omega) (.cells #[.slice Ax nx cx, .int .i64 (0), .slice Ax' nx' cx', .int .i64 (0), .slice Ex mx kx, .int .i64 (0)] 27))
    replace x3 := Lib.hid (x3.out.alloc (by omega) (.cells #[.slice Ax nx cx, .int .i64 (0), .slice Ax' nx' cx', .int .i64 (0), .slice Ex mx kx, .int .i64 (0)] 27))
    replace EB := Lib.hid (EB.out.alloc (by omega) (.cells #[.slice Ax nx cx, .int .i64 (0), .slice Ax' nx' cx', .int .i64 (0), .slice Ex mx kx, .int .i64 (0)] 27))
    have Bx := Lib.hid (Box.new w3 27 [.slice Ax nx cx, .int .i64 (0), .slice Ax' nx' cx', .int .i64 (0), .slice Ex mx kx, .int .i64 (0)])
    have s4 : w3.heap.size + 1 ≤ (w3.alloc (.cells #[.slice Ax nx cx, .int .i64 (0), .slice Ax' nx' cx', .int .i64 (0), .slice Ex mx kx, .int .i64 (0)] 27)).heap.size := by simp
    generalize w3.alloc (.cells #[.slice Ax nx cx, .int .i64 (0), .slice Ax' nx' cx', .int .i64 (0), .slice Ex mx kx, .int .i64 (0)] 27) = w4 at *
    refine (to_rli (SReadFull_x d1.out d2.out d3.out (by omega) (by omega) (by omega) hcd hcd' hkd (by omega) (by omega) (by omega) (by unfold okInt; omega)) (rfull_no hg)).mono ?_
    rintro e w5 ⟨Ay, ny, cy, Ay', ny', cy', Ey, my, ky, Am, nm, cm, rfl, ⟨hcy, hcy', hky, hcm⟩, hb, hd, hd', hr, hl⟩
    (try simp only [World.size_alloc, World.size_setCell, World.size_drew] at hb)
    have HB := Lib.hid hb
    clear hb
    have s5 := HB.out.size
    (try simp only [World.size_alloc, World.size_setCell, World.size_drew] at s5)
    replace d1 := Lib.hid (d1.out.below HB.out (by omega))
    replace d2 := Lib.hid (d2.out.below HB.out (by omega))
    replace d3 := Lib.hid (d3.out.below HB.out (by omega))
    replace Bd := Lib.hid (Bd.out.below HB.out (by omega))
    replace l1 := Lib.hid (l1.out.below HB.out (by omega))
    replace x1 := Lib.hid (x1.out.below HB.out (by omega))
    replace x2 := Lib.hid (x2.out.below HB.out (by omega))
    replace x3 := Lib.hid (x3.out.below HB.out (by omega))
    replace Bx := Lib.hid (Bx.out.below HB.out (by omega))
    replace EB := Lib.hid (below_step HB.out EB.out (by omega))
    clear HB
    have m1 := Lib.hid hl
    have y1 := Lib.hid hd
    have y2 := Lib.hid hd'
    have y3 := Lib.hid hr
    clear hd hd' hr hl
    have vxl := Bx.out.lt
    have vx0 := (Bx.out.2 0 _ rfl).1
    have vx1 := (Bx.out.2 1 _ rfl).1
    have vx2 := (Bx.out.2 2 _ rfl).1
    have vx3 := (Bx.out.2 3 _ rfl).1
    have vx4 := (Bx.out.2 4 _ rfl).1
    have vx5 := (Bx.out.2 5 _ rfl).1
    go_wp2_with fail
    clear vxl vx0 vx1 vx2 vx3 vx4 vx5
    replace d1 := Lib.hid (d1.out.alloc (by omega) (.cells #[.slice Ay ny cy, .int .i64 (0), .slice Ay' ny' cy', .int .i64 (0), .slice Ey my ky, .int .i64 (0)] 27))
    replace d2 := Lib.hid (d2.out.alloc (by omega) (.cells #[.slice Ay ny cy, .int .i64 (0), .slice Ay' ny' cy', .int .i64 (0), .slice Ey my ky, .int .i64 (0)] 27))
    replace d3 := Lib.hid (d3.out.alloc (by omega) (.cells #[.slice Ay ny cy, .int .i64 (0), .slice Ay' ny' cy', .int .i64 (0), .slice Ey my ky, .int .i64 (0)] 27))
    replace Bd := Lib.hid (Bd.out.alloc (.cells #[.slice Ay ny cy, .int .i64 (0), .slice Ay' ny' cy', .int .i64 (0), .slice Ey my ky, .int .i64 (0)] 27))
    replace l1 := Lib.hid (l1.out.alloc (by omega) (.cells #[.slice Ay ny cy, .int .i64 (0), .slice Ay' ny' cy', .int .i64 (0), .slice Ey my ky, .int .i64 (0)] 27))
    replace x1 := Lib.hid (x1.out.alloc (by omega) (.cells #[.slice Ay ny cy, .int .i64 (0), .slice Ay' ny' cy', .int .i64 (0), .slice Ey my ky, .int .i64 (0)] 27))
    replace x2 := Lib.hid (x2.out.alloc (by omega) (.cells #[.slice Ay ny cy, .int .i64 (0), .slice Ay' ny' cy', .int .i64 (0), .slice Ey my ky, .int .i64 (0)] 27))
    replace x3 := Lib.hid (x3.out.alloc (by omega) (.cells #[.slice Ay ny cy, .int .i64 (0), .slice Ay' ny' cy', .int .i64 (0), .slice Ey my ky, .int .i64 (0)] 27))
    replace Bx := Lib.hid (Bx.out.alloc (.cells #[.slice Ay ny cy, .int .i64 (0), .slice Ay' ny' cy', .int .i64 (0), .slice Ey my ky, .int .i64 (0)] 27))
    replace m1 := Lib.hid (m1.out.alloc (by omega) (.cells #[.slice Ay ny cy, .int .i64 (0), .slice Ay' ny' cy', .int .i64 (0), .slice Ey my ky, .int .i64 (0)] 27))
    replace y1 := Lib.hid (y1.out.alloc (by omega) (.cells #[.slice Ay ny cy, .int .i64 (0), .slice Ay' ny' cy', .int .i64 (0), .slice Ey my ky, .int .i64 (0)] 27))
    replace y2 := Lib.hid (y2.out.alloc (by omega) (.cells #[.slice Ay ny cy, .int .i64 (0), .slice Ay' ny' cy', .int .i64 (0), .slice Ey my ky, .int .i64 (0)] 27))
    replace y3 := Lib.hid (y3.out.alloc (by omega) (.cells #[.slice Ay ny cy, .int .i64 (0), .slice Ay' ny' cy', .int .i64 (0), .slice Ey my ky, .int .i64 (0)] 27))
    replace EB := Lib.hid (EB.out.alloc (by omega) (.cells #[.slice Ay ny cy, .int .i64 (0), .slice Ay' ny' cy', .int .i64 (0), .slice Ey my ky, .int .i64 (0)] 27))
    have By := Lib.hid (Box.new w5 27 [.slice Ay ny cy, .int .i64 (0), .slice Ay' ny' cy', .int .i64 (0), .slice Ey my ky, .int .i64 (0)])
    have s6 : w5.heap.size + 1 ≤ (w5.alloc (.cells #[.slice Ay ny cy, .int .i64 (0), .slice Ay' ny' cy', .int .i64 (0), .slice Ey my ky, .int .i64 (0)] 27)).heap.size := by simp
    generalize w5.alloc (.cells #[.slice Ay ny cy, .int .i64 (0), .slice Ay' ny' cy', .int .i64 (0), .slice Ey my ky, .int .i64 (0)] 27) = w6 at *
    refine (equalReader_same x1.out x2.out x3.out y1.out y2.out y3.out (by omega) (by omega) (by omega) (by omega) (by omega) (by omega)).mono ?_
    rintro e w7 ⟨rfl, hb⟩
    (try simp only [World.size_alloc, World.size_setCell, World.size_drew] at hb)
    have HB := Lib.hid hb
    clear hb
    have s7 := HB.out.size
    (try simp only [World.size_alloc, World.size_setCell, World.size_drew] at s7)
    replace d1 := Lib.hid (d1.out.below HB.out (by omega))
    replace d2 := Lib.hid (d2.out.below HB.out (by omega))
    replace d3 := Lib.hid (d3.out.below HB.out (by omega))
    replace Bd := Lib.hid (Bd.out.below HB.out (by omega))
    replace l1 := Lib.hid (l1.out.below HB.out (by omega))
    replace x1 := Lib.hid (x1.out.below HB.out (by omega))
    replace x2 := Lib.hid (x2.out.below HB.out (by omega))
    replace x3 := Lib.hid (x3.out.below HB.out (by omega))
    replace Bx := Lib.hid (Bx.out.below HB.out (by omega))
    replace m1 := Lib.hid (m1.out.below HB.out (by omega))
    replace y1 := Lib.hid (y1.out.below HB.out (by omega))
    replace y2 := Lib.hid (y2.out.below HB.out (by omega))
    replace y3 := Lib.hid (y3.out.below HB.out (by omega))
    replace By := Lib.hid (By.out.below HB.out (by omega))
    replace EB := Lib.hid (below_step HB.out EB.out (by omega))
    clear HB
    go_wp2_with fail
    refine (equalInts_same l1.out m1.out rfl).mono ?_
    rintro e w8 ⟨rfl, hb⟩
    (try simp only [World.size_alloc, World.size_setCell, World.size_drew] at hb)
    have HB := Lib.hid hb
    clear hb
    have s8 := HB.out.size
    (try simp only [World.size_alloc, World.size_setCell, World.size_drew] at s8)
    replace d1 := Lib.hid (d1.out.below HB.out (by omega))
    replace d2 := Lib.hid (d2.out.below HB.out (by omega))
    replace d3 := Lib.hid (d3.out.below HB.out (by omega))
    replace Bd := Lib.hid (Bd.out.below HB.out (by omega))
    replace l1 := Lib.hid (l1.out.below HB.out (by omega))
    replace x1 := Lib.hid (x1.out.below HB.out (by omega))
    replace x2 := Lib.hid (x2.out.below HB.out (by omega))
    replace x3 := Lib.hid (x3.out.below HB.out (by omega))
    replace Bx := Lib.hid (Bx.out.below HB.out (by omega))
    replace m1 := Lib.hid (m1.out.below HB.out (by omega))
    replace y1 := Lib.hid (y1.out.below HB.out (by omega))
    replace y2 := Lib.hid (y2.out.below HB.out (by omega))
    replace y3 := Lib.hid (y3.out.below HB.out (by omega))
    replace By := Lib.hid (By.out.below HB.out (by omega))
    replace EB := Lib.hid (below_step HB.out EB.out (by omega))
    clear HB
    have vxl := Bx.out.lt
    have vx0 := (Bx.out.2 0 _ rfl).1
    have vx1 := (Bx.out.2 1 _ rfl).1
    have vx2 := (Bx.out.2 2 _ rfl).1
    have vx3 := (Bx.out.2 3 _ rfl).1
    have vx4 := (Bx.out.2 4 _ rfl).1
    have vx5 := (Bx.out.2 5 _ rfl).1
    have vyl := By.out.lt
    have vy0 := (By.out.2 0 _ rfl).1
    have vy1 := (By.out.2 1 _ rfl).1
    have vy2 := (By.out.2 2 _ rfl).1
    have vy3 := (By.out.2 3 _ rfl).1
    have vy4 := (By.out.2 4 _ rfl).1
    have vy5 := (By.out.2 5 _ rfl).1
    go_wp2_with fail
    refine (equalReader_same x1.out x2.out x3.out y1.out y2.out y3.out (by omega) (by omega) (by omega) (by omega) (by omega) (by omega)).mono ?_
    clear vxl vx0 vx1 vx2 vx3 vx4 vx5 vyl vy0 vy1 vy2 vy3 vy4 vy5
    rintro e w9 ⟨rfl, hb⟩
    (try simp only [World.size_alloc, World.size_setCell, World.size_drew] at hb)
    have HB := Lib.hid hb
    clear hb
    have s9 := HB.out.size
    (try simp only [World.size_alloc, World.size_setCell, World.size_drew] at s9)
    replace d1 := Lib.hid (d1.out.below HB.out (by omega))
    replace d2 := Lib.hid (d2.out.below HB.out (by omega))
    replace d3 := Lib.hid (d3.out.below HB.out (by omega))
    replace Bd := Lib.hid (Bd.out.below HB.out (by omega))
    replace l1 := Lib.hid (l1.out.below HB.out (by omega))
    replace x1 := Lib.hid (x1.out.below HB.out (by omega))
    replace x2 := Lib.hid (x2.out.below HB.out (by omega))
    replace x3 := Lib.hid (x3.out.below HB.out (by omega))
    replace Bx := Lib.hid (Bx.out.below HB.out (by omega))
    replace m1 := Lib.hid (m1.out.below HB.out (by omega))
    replace y1 := Lib.hid (y1.out.below HB.out (by omega))
    replace y2 := Lib.hid (y2.out.below HB.out (by omega))
    replace y3 := Lib.hid (y3.out.below HB.out (by omega))
    replace By := Lib.hid (By.out.below HB.out (by omega))
    replace EB := Lib.hid (below_step HB.out EB.out (by omega))
    clear HB
    go_wp2_with fail
    refine (equalInts_same l1.out m1.out rfl).mono ?_
    rintro e w10 ⟨rfl, hb⟩
    (try simp only [World.size_alloc, World.size_setCell, World.size_drew] at hb)
    have HB := Lib.hid hb
    clear hb
    have s10 := HB.out.size
    (try simp only [World.size_alloc, World.size_setCell, World.size_drew] at s10)
    replace d1 := Lib.hid (d1.out.below HB.out (by omega))
    replace d2 := Lib.hid (d2.out.below HB.out (by omega))
    replace d3 := Lib.hid (d3.out.below HB.out (by omega))
    replace Bd := Lib.hid (Bd.out.below HB.out (by omega))
    replace l1 := Lib.hid (l1.out.below HB.out (by omega))
    replace x1 := Lib.hid (x1.out.below HB.out (by omega))
    replace x2 := Lib.hid (x2.out.below HB.out (by omega))
    replace x3 := Lib.hid (x3.out.below HB.out (by omega))
    replace Bx := Lib.hid (Bx.out.below HB.out (by omega))
    replace m1 := Lib.hid (m1.out.below HB.out (by omega))
    replace y1 := Lib.hid (y1.out.below HB.out (by omega))
    replace y2 := Lib.hid (y2.out.below HB.out (by omega))
    replace y3 := Lib.hid (y3.out.below HB.out (by omega))
    replace By := Lib.hid (By.out.below HB.out (by omega))
    replace EB := Lib.hid (below_step HB.out EB.out (by omega))
    clear HB
    go_wp2
    go_ret
    exact ⟨rfl, EB.out⟩
  · have hn0 : 0 ≤ zn ∧ zn ≤ 60 := by have h1 := (Bool.and_eq_true_iff.1 hg).2; simpa [inB] using h1
    obtain ⟨N, rfl⟩ := Int.eq_ofNat_of_zero_le hn0.1
    cases hsm : (validD Dd pd Sd qd && smoothB Sd qd.toNat)
    · obtain ⟨t, P, Q, R1, L, st, ho, hs5, _, _, _, _, hr1, _⟩ := rfull_all hg
      clear hg
      have HO := Lib.hid ho; have R1L := Lib.hid hr1; have SM := Lib.hid hsm
      clear ho hr1 hsm
      refine (to_rli (ReadFull_x d1.out d2.out d3.out (by omega) (by omega) (by omega) hcd hcd' hkd (by omega) (by omega) (by omega) (by unfold okInt; omega)) HO.out).mono ?_
      rintro e w3 ⟨Ax, nx, cx, Ax', nx', cx', Ex, mx, kx, Al, nl, cl, rfl, ⟨hcx, hcx', hkx, hcl⟩, hb, hd, hd', hr, hl⟩
      (try simp only [World.size_alloc, World.size_setCell, World.size_drew] at hb)
      have HB := Lib.hid hb
      clear hb
      have s3 := HB.out.size
      (try simp only [World.size_alloc, World.size_setCell, World.size_drew] at s3)
      replace d1 := Lib.hid (d1.out.below HB.out (by omega))
      replace d2 := Lib.hid (d2.out.below HB.out (by omega))
      replace d3 := Lib.hid (d3.out.below HB.out (by omega))
      replace Bd := Lib.hid (Bd.out.below HB.out (by omega))
      replace EB := Lib.hid (below_step HB.out EB.out (by omega))
      clear HB
      have l1 := Lib.hid hl
      have x1 := Lib.hid hd
      have x2 := Lib.hid hd'
      have x3 := Lib.hid hr
      clear hd hd' hr hl
      have vdl := Bd.out.lt
      have vd0 := (Bd.out.2 0 _ rfl).1
      have vd1 := (Bd.out.2 1 _ rfl).1
      have vd2 := (Bd.out.2 2 _ rfl).1
      have vd3 := (Bd.out.2 3 _ rfl).1
      have vd4 := (Bd.out.2 4 _ rfl).1
      have vd5 := (Bd.out.2 5 _ rfl).1
      go_wp2_with fail
      clear vdl vd0 vd1 vd2 vd3 vd4 vd5
      replace d1 := Lib.hid (d1.out.alloc (by omega) (.cells #[.slice Ax nx cx, .int .i64 (P), .slice Ax' nx' cx', .int .i64 (Q), .slice Ex mx kx, .int .i64 (yd)] 27))
      replace d2 := Lib.hid (d2.out.alloc (by omega) (.cells #[.slice Ax nx cx, .int .i64 (P), .slice Ax' nx' cx', .int .i64 (Q), .slice Ex mx kx, .int .i64 (yd)] 27))
      replace d3 := Lib.hid (d3.out.alloc (by omega) (.cells #[.slice Ax nx cx, .int .i64 (P), .slice Ax' nx' cx', .int .i64 (Q), .slice Ex mx kx, .int .i64 (yd)] 27))
      replace Bd := Lib.hid (Bd.out.alloc (.cells #[.slice Ax nx cx, .int .i64 (P), .slice Ax' nx' cx', .int .i64 (Q), .slice Ex mx kx, .int .i64 (yd)] 27))
      replace l1 := Lib.hid (l1.out.alloc (by omega) (.cells #[.slice Ax nx cx, .int .i64 (P), .slice Ax' nx' cx', .int .i64 (Q), .slice Ex mx kx, .int .i64 (yd)] 27))
      replace x1 := Lib.hid (x1.out.alloc (by omega) (.cells #[.slice Ax nx cx, .int .i64 (P), .slice Ax' nx' cx', .int .i64 (Q), .slice Ex mx kx, .int .i64 (yd)] 27))
      replace x2 := Lib.hid (x2.out.alloc (by omega) (.cells #[.slice Ax nx cx, .int .i64 (P), .slice Ax' nx' cx', .int .i64 (Q), .slice Ex mx kx, .int .i64 (yd)] 27))
      replace x3 := Lib.hid (x3.out.alloc (by omega) (.cells #[.slice Ax nx cx, .int .i64 (P), .slice Ax' nx' cx', .int .i64 (Q), .slice Ex mx kx, .int .i64 (yd)] 27))
      replace EB := Lib.hid (EB.out.alloc (by omega) (.cells #[.slice Ax nx cx, .int .i64 (P), .slice Ax' nx' cx', .int .i64 (Q), .slice Ex mx kx, .int .i64 (yd)] 27))
      have Bx := Lib.hid (Box.new w3 27 [.slice Ax nx cx, .int .i64 (P), .slice Ax' nx' cx', .int .i64 (Q), .slice Ex mx kx, .int .i64 (yd)])
      have s4 : w3.heap.size + 1 ≤ (w3.alloc (.cells #[.slice Ax nx cx, .int .i64 (P), .slice Ax' nx' cx', .int .i64 (Q), .slice Ex mx kx, .int .i64 (yd)] 27)).heap.size := by simp
      generalize w3.alloc (.cells #[.slice Ax nx cx, .int .i64 (P), .slice Ax' nx' cx', .int .i64 (Q), .slice Ex mx kx, .int .i64 (yd)] 27) = w4 at *
      refine (to_rli (SReadFull_x d1.out d2.out d3.out (by omega) (by omega) (by omega) hcd hcd' hkd (by omega) (by omega) (by omega) (by unfold okInt; omega)) HO.out).mono ?_
      rintro e w5 ⟨Ay, ny, cy, Ay', ny', cy', Ey, my, ky, Am, nm, cm, rfl, ⟨hcy, hcy', hky, hcm⟩, hb, hd, hd', hr, hl⟩
      (try simp only [World.size_alloc, World.size_setCell, World.size_drew] at hb)
      have HB := Lib.hid hb
      clear hb
      have s5 := HB.out.size
      (try simp only [World.size_alloc, World.size_setCell, World.size_drew] at s5)
      replace d1 := Lib.hid (d1.out.below HB.out (by omega))
      replace d2 := Lib.hid (d2.out.below HB.out (by omega))
      replace d3 := Lib.hid (d3.out.below HB.out (by omega))
      replace Bd := Lib.hid (Bd.out.below HB.out (by omega))
      replace l1 := Lib.hid (l1.out.below HB.out (by omega))
      replace x1 := Lib.hid (x1.out.below HB.out (by omega))
      replace x2 := Lib.hid (x2.out.below HB.out (by omega))
      replace x3 := Lib.hid (x3.out.below HB.out (by omega))
      replace Bx := Lib.hid (Bx.out.below HB.out (by omega))
      replace EB := Lib.hid (below_step HB.out EB.out (by omega))
      clear HB
      have m1 := Lib.hid hl
      have y1 := Lib.hid hd
      have y2 := Lib.hid hd'
      have y3 := Lib.hid hr
      clear hd hd' hr hl
      have vxl := Bx.out.lt
      have vx0 := (Bx.out.2 0 _ rfl).1
      have vx1 := (Bx.out.2 1 _ rfl).1
      have vx2 := (Bx.out.2 2 _ rfl).1
      have vx3 := (Bx.out.2 3 _ rfl).1
      have vx4 := (Bx.out.2 4 _ rfl).1
      have vx5 := (Bx.out.2 5 _ rfl).1
      go_wp2_with fail
      clear vxl vx0 vx1 vx2 vx3 vx4 vx5
      replace d1 := Lib.hid (d1.out.alloc (by omega) (.cells #[.slice Ay ny cy, .int .i64 (P), .slice Ay' ny' cy', .int .i64 (Q), .slice Ey my ky, .int .i64 (yd)] 27))
      replace d2 := Lib.hid (d2.out.alloc (by omega) (.cells #[.slice Ay ny cy, .int .i64 (P), .slice Ay' ny' cy', .int .i64 (Q), .slice Ey my ky, .int .i64 (yd)] 27))
      replace d3 := Lib.hid (d3.out.alloc (by omega) (.cells #[.slice Ay ny cy, .int .i64 (P), .slice Ay' ny' cy', .int .i64 (Q), .slice Ey my ky, .int .i64 (yd)] 27))
      replace Bd := Lib.hid (Bd.out.alloc (.cells #[.slice Ay ny cy, .int .i64 (P), .slice Ay' ny' cy', .int .i64 (Q), .slice Ey my ky, .int .i64 (yd)] 27))
      replace l1 := Lib.hid (l1.out.alloc (by omega) (.cells #[.slice Ay ny cy, .int .i64 (P), .slice Ay' ny' cy', .int .i64 (Q), .slice Ey my ky, .int .i64 (yd)] 27))
      replace x1 := Lib.hid (x1.out.alloc (by omega) (.cells #[.slice Ay ny cy, .int .i64 (P), .slice Ay' ny' cy', .int .i64 (Q), .slice Ey my ky, .int .i64 (yd)] 27))
      replace x2 := Lib.hid (x2.out.alloc (by omega) (.cells #[.slice Ay ny cy, .int .i64 (P), .slice Ay' ny' cy', .int .i64 (Q), .slice Ey my ky, .int .i64 (yd)] 27))
      replace x3 := Lib.hid (x3.out.alloc (by omega) (.cells #[.slice Ay ny cy, .int .i64 (P), .slice Ay' ny' cy', .int .i64 (Q), .slice Ey my ky, .int .i64 (yd)] 27))
      replace Bx := Lib.hid (Bx.out.alloc (.cells #[.slice Ay ny cy, .int .i64 (P), .slice Ay' ny' cy', .int .i64 (Q), .slice Ey my ky, .int .i64 (yd)] 27))
      replace m1 := Lib.hid (m1.out.alloc (by omega) (.cells #[.slice Ay ny cy, .int .i64 (P), .slice Ay' ny' cy', .int .i64 (Q), .slice Ey my ky, .int .i64 (yd)] 27))
      replace y1 := Lib.hid (y1.out.alloc (by omega) (.cells #[.slice Ay ny cy, .int .i64 (P), .slice Ay' ny' cy', .int .i64 (Q), .slice Ey my ky, .int .i64 (yd)] 27))
      replace y2 := Lib.hid (y2.out.alloc (by omega) (.cells #[.slice Ay ny cy, .int .i64 (P), .slice Ay' ny' cy', .int .i64 (Q), .slice Ey my ky, .int .i64 (yd)] 27))
      replace y3 := Lib.hid (y3.out.alloc (by omega) (.cells #[.slice Ay ny cy, .int .i64 (P), .slice Ay' ny' cy', .int .i64 (Q), .slice Ey my ky, .int .i64 (yd)] 27))
      replace EB := Lib.hid (EB.out.alloc (by omega) (.cells #[.slice Ay ny cy, .int .i64 (P), .slice Ay' ny' cy', .int .i64 (Q), .slice Ey my ky, .int .i64 (yd)] 27))
      have By := Lib.hid (Box.new w5 27 [.slice Ay ny cy, .int .i64 (P), .slice Ay' ny' cy', .int .i64 (Q), .slice Ey my ky, .int .i64 (yd)])
      have s6 : w5.heap.size + 1 ≤ (w5.alloc (.cells #[.slice Ay ny cy, .int .i64 (P), .slice Ay' ny' cy', .int .i64 (Q), .slice Ey my ky, .int .i64 (yd)] 27)).heap.size := by simp
      generalize w5.alloc (.cells #[.slice Ay ny cy, .int .i64 (P), .slice Ay' ny' cy', .int .i64 (Q), .slice Ey my ky, .int .i64 (yd)] 27) = w6 at *
      refine (equalReader_same x1.out x2.out x3.out y1.out y2.out y3.out (by omega) (by omega) (by omega) (by omega) (by omega) (by omega)).mono ?_
      rintro e w7 ⟨rfl, hb⟩
      (try simp only [World.size_alloc, World.size_setCell, World.size_drew] at hb)
      have HB := Lib.hid hb
      clear hb
      have s7 := HB.out.size
      (try simp only [World.size_alloc, World.size_setCell, World.size_drew] at s7)
      replace d1 := Lib.hid (d1.out.below HB.out (by omega))
      replace d2 := Lib.hid (d2.out.below HB.out (by omega))
      replace d3 := Lib.hid (d3.out.below HB.out (by omega))
      replace Bd := Lib.hid (Bd.out.below HB.out (by omega))
      replace l1 := Lib.hid (l1.out.below HB.out (by omega))
      replace x1 := Lib.hid (x1.out.below HB.out (by omega))
      replace x2 := Lib.hid (x2.out.below HB.out (by omega))
      replace x3 := Lib.hid (x3.out.below HB.out (by omega))
      replace Bx := Lib.hid (Bx.out.below HB.out (by omega))
      replace m1 := Lib.hid (m1.out.below HB.out (by omega))
      replace y1 := Lib.hid (y1.out.below HB.out (by omega))
      replace y2 := Lib.hid (y2.out.below HB.out (by omega))
      replace y3 := Lib.hid (y3.out.below HB.out (by omega))
      replace By := Lib.hid (By.out.below HB.out (by omega))
      replace EB := Lib.hid (below_step HB.out EB.out (by omega))
      clear HB
      go_wp2_with fail
      refine (equalInts_same l1.out m1.out rfl).mono ?_
      rintro e w8 ⟨rfl, hb⟩
      (try simp only [World.size_alloc, World.size_setCell, World.size_drew] at hb)
      have HB := Lib.hid hb
      clear hb
      have s8 := HB.out.size
      (try simp only [World.size_alloc, World.size_setCell, World.size_drew] at s8)
      replace d1 := Lib.hid (d1.out.below HB.out (by omega))
      replace d2 := Lib.hid (d2.out.below HB.out (by omega))
      replace d3 := Lib.hid (d3.out.below HB.out (by omega))
      replace Bd := Lib.hid (Bd.out.below HB.out (by omega))
      replace l1 := Lib.hid (l1.out.below HB.out (by omega))
      replace x1 := Lib.hid (x1.out.below HB.out (by omega))
      replace x2 := Lib.hid (x2.out.below HB.out (by omega))
      replace x3 := Lib.hid (x3.out.below HB.out (by omega))
      replace Bx := Lib.hid (Bx.out.below HB.out (by omega))
      replace m1 := Lib.hid (m1.out.below HB.out (by omega))
      replace y1 := Lib.hid (y1.out.below HB.out (by omega))
      replace y2 := Lib.hid (y2.out.below HB.out (by omega))
      replace y3 := Lib.hid (y3.out.below HB.out (by omega))
      replace By := Lib.hid (By.out.below HB.out (by omega))
      replace EB := Lib.hid (below_step HB.out EB.out (by omega))
      clear HB
      have vdl := Bd.out.lt
      have vd0 := (Bd.out.2 0 _ rfl).1
      have vd1 := (Bd.out.2 1 _ rfl).1
      have vd2 := (Bd.out.2 2 _ rfl).1
      have vd3 := (Bd.out.2 3 _ rfl).1
      have vd4 := (Bd.out.2 4 _ rfl).1
      have vd5 := (Bd.out.2 5 _ rfl).1
      go_wp2_with fail
      refine (to_boolN (IsSmooth_any d1.out d2.out (by omega) (by omega)) SM.out).mono ?_
      clear vdl vd0 vd1 vd2 vd3 vd4 vd5
      rintro e w9 ⟨rfl, hb⟩
      (try simp only [World.size_alloc, World.size_setCell, World.size_drew] at hb)
      have HB := Lib.hid hb
      clear hb
      have s9 := HB.out.size
      (try simp only [World.size_alloc, World.size_setCell, World.size_drew] at s9)
      replace d1 := Lib.hid (d1.out.below HB.out (by omega))
      replace d2 := Lib.hid (d2.out.below HB.out (by omega))
      replace d3 := Lib.hid (d3.out.below HB.out (by omega))
      replace Bd := Lib.hid (Bd.out.below HB.out (by omega))
      replace l1 := Lib.hid (l1.out.below HB.out (by omega))
      replace x1 := Lib.hid (x1.out.below HB.out (by omega))
      replace x2 := Lib.hid (x2.out.below HB.out (by omega))
      replace x3 := Lib.hid (x3.out.below HB.out (by omega))
      replace Bx := Lib.hid (Bx.out.below HB.out (by omega))
      replace m1 := Lib.hid (m1.out.below HB.out (by omega))
      replace y1 := Lib.hid (y1.out.below HB.out (by omega))
      replace y2 := Lib.hid (y2.out.below HB.out (by omega))
      replace y3 := Lib.hid (y3.out.below HB.out (by omega))
      replace By := Lib.hid (By.out.below HB.out (by omega))
      replace EB := Lib.hid (below_step HB.out EB.out (by omega))
      clear HB
      go_wp2
      go_ret
      exact ⟨rfl, EB.out⟩
    · have hN60 : N ≤ 60 := by omega
      obtain ⟨K, hK⟩ : ∃ K : Nat, N / 2 = K := ⟨_, rfl⟩
      have hKN : K ≤ N := by omega
      have hdv : (N : Int).tdiv 2 = (K : Int) := by rw [← hK]; rfl
      clear hK
      have hwk : IntKind.i64.wrap (K : Int) = (K : Int) := IntWalk.i64_in _ (by omega)
      have hwn : IntKind.i64.wrap ((N : Int) - (K : Int)) = (N : Int) - (K : Int) := IntWalk.i64_in _ (by omega)
      obtain ⟨P, Q, R1, L, st, ho, hs5, hr1, P1, Q1, R2, L1, st1, ho1, hr2, hl1, hwhat⟩ := rfull_twice hg hsm hKN
      clear hg
      have HO := Lib.hid ho
      have HO1 := Lib.hid ho1
      have R1L := Lib.hid hr1
      have R2L := Lib.hid hr2
      have L1L := Lib.hid hl1
      have SM := Lib.hid hsm
      clear ho ho1 hr1 hr2 hl1 hsm
      rcases hwhat with ⟨hst1, hlt⟩ | ⟨hst1, hnext⟩
      · have hs10 : (st1 == 0) = false := by simpa using hst1
        have hs11 : (st1 != 0) = true := by simpa using hst1
        have HLT := Lib.hid hlt
        clear hlt
        refine (to_rli (ReadFull_x d1.out d2.out d3.out (by omega) (by omega) (by omega) hcd hcd' hkd (by omega) (by omega) (by omega) (by unfold okInt; omega)) HO.out).mono ?_
        rintro e w3 ⟨Ax, nx, cx, Ax', nx', cx', Ex, mx, kx, Al, nl, cl, rfl, ⟨hcx, hcx', hkx, hcl⟩, hb, hd, hd', hr, hl⟩
        (try simp only [World.size_alloc, World.size_setCell, World.size_drew] at hb)
        have HB := Lib.hid hb
        clear hb
        have s3 := HB.out.size
        (try simp only [World.size_alloc, World.size_setCell, World.size_drew] at s3)
        replace d1 := Lib.hid (d1.out.below HB.out (by omega))
        replace d2 := Lib.hid (d2.out.below HB.out (by omega))
        replace d3 := Lib.hid (d3.out.below HB.out (by omega))
        replace Bd := Lib.hid (Bd.out.below HB.out (by omega))
        replace EB := Lib.hid (below_step HB.out EB.out (by omega))
        clear HB
        have l1 := Lib.hid hl
        have x1 := Lib.hid hd
        have x2 := Lib.hid hd'
        have x3 := Lib.hid hr
        clear hd hd' hr hl
        have vdl := Bd.out.lt
        have vd0 := (Bd.out.2 0 _ rfl).1
        have vd1 := (Bd.out.2 1 _ rfl).1
        have vd2 := (Bd.out.2 2 _ rfl).1
        have vd3 := (Bd.out.2 3 _ rfl).1
        have vd4 := (Bd.out.2 4 _ rfl).1
        have vd5 := (Bd.out.2 5 _ rfl).1
        go_wp2_with fail
        clear vdl vd0 vd1 vd2 vd3 vd4 vd5
        replace d1 := Lib.hid (d1.out.alloc (by omega) (.cells #[.slice Ax nx cx, .int .i64 (P), .slice Ax' nx' cx', .int .i64 (Q), .slice Ex mx kx, .int .i64 (yd)] 27))
        replace d2 := Lib.hid (d2.out.alloc (by omega) (.cells #[.slice Ax nx cx, .int .i64 (P), .slice Ax' nx' cx', .int .i64 (Q), .slice Ex mx kx, .int .i64 (yd)] 27))
        replace d3 := Lib.hid (d3.out.alloc (by omega) (.cells #[.slice Ax nx cx, .int .i64 (P), .slice Ax' nx' cx', .int .i64 (Q), .slice Ex mx kx, .int .i64 (yd)] 27))
        replace Bd := Lib.hid (Bd.out.alloc (.cells #[.slice Ax nx cx, .int .i64 (P), .slice Ax' nx' cx', .int .i64 (Q), .slice Ex mx kx, .int .i64 (yd)] 27))
        replace l1 := Lib.hid (l1.out.alloc (by omega) (.cells #[.slice Ax nx cx, .int .i64 (P), .slice Ax' nx' cx', .int .i64 (Q), .slice Ex mx kx, .int .i64 (yd)] 27))
        replace x1 := Lib.hid (x1.out.alloc (by omega) (.cells #[.slice Ax nx cx, .int .i64 (P), .slice Ax' nx' cx', .int .i64 (Q), .slice Ex mx kx, .int .i64 (yd)] 27))
        replace x2 := Lib.hid (x2.out.alloc (by omega) (.cells #[.slice Ax nx cx, .int .i64 (P), .slice Ax' nx' cx', .int .i64 (Q), .slice Ex mx kx, .int .i64 (yd)] 27))
        replace x3 := Lib.hid (x3.out.alloc (by omega) (.cells #[.slice Ax nx cx, .int .i64 (P), .slice Ax' nx' cx', .int .i64 (Q), .slice Ex mx kx, .int .i64 (yd)] 27))
        replace EB := Lib.hid (EB.out.alloc (by omega) (.cells #[.slice Ax nx cx, .int .i64 (P), .slice Ax' nx' cx', .int .i64 (Q), .slice Ex mx kx, .int .i64 (yd)] 27))
        have Bx := Lib.hid (Box.new w3 27 [.slice Ax nx cx, .int .i64 (P), .slice Ax' nx' cx', .int .i64 (Q), .slice Ex mx kx, .int .i64 (yd)])
        have s4 : w3.heap.size + 1 ≤ (w3.alloc (.cells #[.slice Ax nx cx, .int .i64 (P), .slice Ax' nx' cx', .int .i64 (Q), .slice Ex mx kx, .int .i64 (yd)] 27)).heap.size := by simp
        generalize w3.alloc (.cells #[.slice Ax nx cx, .int .i64 (P), .slice Ax' nx' cx', .int .i64 (Q), .slice Ex mx kx, .int .i64 (yd)] 27) = w4 at *
        refine (to_rli (SReadFull_x d1.out d2.out d3.out (by omega) (by omega) (by omega) hcd hcd' hkd (by omega) (by omega) (by omega) (by unfold okInt; omega)) HO.out).mono ?_
        rintro e w5 ⟨Ay, ny, cy, Ay', ny', cy', Ey, my, ky, Am, nm, cm, rfl, ⟨hcy, hcy', hky, hcm⟩, hb, hd, hd', hr, hl⟩
        (try simp only [World.size_alloc, World.size_setCell, World.size_drew] at hb)
        have HB := Lib.hid hb
        clear hb
        have s5 := HB.out.size
        (try simp only [World.size_alloc, World.size_setCell, World.size_drew] at s5)
        replace d1 := Lib.hid (d1.out.below HB.out (by omega))
        replace d2 := Lib.hid (d2.out.below HB.out (by omega))
        replace d3 := Lib.hid (d3.out.below HB.out (by omega))
        replace Bd := Lib.hid (Bd.out.below HB.out (by omega))
        replace l1 := Lib.hid (l1.out.below HB.out (by omega))
        replace x1 := Lib.hid (x1.out.below HB.out (by omega))
        replace x2 := Lib.hid (x2.out.below HB.out (by omega))
        replace x3 := Lib.hid (x3.out.below HB.out (by omega))
        replace Bx := Lib.hid (Bx.out.below HB.out (by omega))
        replace EB := Lib.hid (below_step HB.out EB.out (by omega))
        clear HB
        have m1 := Lib.hid hl
        have y1 := Lib.hid hd
        have y2 := Lib.hid hd'
        have y3 := Lib.hid hr
        clear hd hd' hr hl
        have vxl := Bx.out.lt
        have vx0 := (Bx.out.2 0 _ rfl).1
        have vx1 := (Bx.out.2 1 _ rfl).1
        have vx2 := (Bx.out.2 2 _ rfl).1
        have vx3 := (Bx.out.2 3 _ rfl).1
        have vx4 := (Bx.out.2 4 _ rfl).1
        have vx5 := (Bx.out.2 5 _ rfl).1
        go_wp2_with fail
        clear vxl vx0 vx1 vx2 vx3 vx4 vx5
        replace d1 := Lib.hid (d1.out.alloc (by omega) (.cells #[.slice Ay ny cy, .int .i64 (P), .slice Ay' ny' cy', .int .i64 (Q), .slice Ey my ky, .int .i64 (yd)] 27))
        replace d2 := Lib.hid (d2.out.alloc (by omega) (.cells #[.slice Ay ny cy, .int .i64 (P), .slice Ay' ny' cy', .int .i64 (Q), .slice Ey my ky, .int .i64 (yd)] 27))
        replace d3 := Lib.hid (d3.out.alloc (by omega) (.cells #[.slice Ay ny cy, .int .i64 (P), .slice Ay' ny' cy', .int .i64 (Q), .slice Ey my ky, .int .i64 (yd)] 27))
        replace Bd := Lib.hid (Bd.out.alloc (.cells #[.slice Ay ny cy, .int .i64 (P), .slice Ay' ny' cy', .int .i64 (Q), .slice Ey my ky, .int .i64 (yd)] 27))
        replace l1 := Lib.hid (l1.out.alloc (by omega) (.cells #[.slice Ay ny cy, .int .i64 (P), .slice Ay' ny' cy', .int .i64 (Q), .slice Ey my ky, .int .i64 (yd)] 27))
        replace x1 := Lib.hid (x1.out.alloc (by omega) (.cells #[.slice Ay ny cy, .int .i64 (P), .slice Ay' ny' cy', .int .i64 (Q), .slice Ey my ky, .int .i64 (yd)] 27))
        replace x2 := Lib.hid (x2.out.alloc (by omega) (.cells #[.slice Ay ny cy, .int .i64 (P), .slice Ay' ny' cy', .int .i64 (Q), .slice Ey my ky, .int .i64 (yd)] 27))
        replace x3 := Lib.hid (x3.out.alloc (by omega) (.cells #[.slice Ay ny cy, .int .i64 (P), .slice Ay' ny' cy', .int .i64 (Q), .slice Ey my ky, .int .i64 (yd)] 27))
        replace Bx := Lib.hid (Bx.out.alloc (.cells #[.slice Ay ny cy, .int .i64 (P), .slice Ay' ny' cy', .int .i64 (Q), .slice Ey my ky, .int .i64 (yd)] 27))
        replace m1 := Lib.hid (m1.out.alloc (by omega) (.cells #[.slice Ay ny cy, .int .i64 (P), .slice Ay' ny' cy', .int .i64 (Q), .slice Ey my ky, .int .i64 (yd)] 27))
        replace y1 := Lib.hid (y1.out.alloc (by omega) (.cells #[.slice Ay ny cy, .int .i64 (P), .slice Ay' ny' cy', .int .i64 (Q), .slice Ey my ky, .int .i64 (yd)] 27))
        replace y2 := Lib.hid (y2.out.alloc (by omega) (.cells #[.slice Ay ny cy, .int .i64 (P), .slice Ay' ny' cy', .int .i64 (Q), .slice Ey my ky, .int .i64 (yd)] 27))
        replace y3 := Lib.hid (y3.out.alloc (by omega) (.cells #[.slice Ay ny cy, .int .i64 (P), .slice Ay' ny' cy', .int .i64 (Q), .slice Ey my ky, .int .i64 (yd)] 27))
        replace EB := Lib.hid (EB.out.alloc (by omega) (.cells #[.slice Ay ny cy, .int .i64 (P), .slice Ay' ny' cy', .int .i64 (Q), .slice Ey my ky, .int .i64 (yd)] 27))
        have By := Lib.hid (Box.new w5 27 [.slice Ay ny cy, .int .i64 (P), .slice Ay' ny' cy', .int .i64 (Q), .slice Ey my ky, .int .i64 (yd)])
        have s6 : w5.heap.size + 1 ≤ (w5.alloc (.cells #[.slice Ay ny cy, .int .i64 (P), .slice Ay' ny' cy', .int .i64 (Q), .slice Ey my ky, .int .i64 (yd)] 27)).heap.size := by simp
        generalize w5.alloc (.cells #[.slice Ay ny cy, .int .i64 (P), .slice Ay' ny' cy', .int .i64 (Q), .slice Ey my ky, .int .i64 (yd)] 27) = w6 at *
        refine (equalReader_same x1.out x2.out x3.out y1.out y2.out y3.out (by omega) (by omega) (by omega) (by omega) (by omega) (by omega)).mono ?_
        rintro e w7 ⟨rfl, hb⟩
        (try simp only [World.size_alloc, World.size_setCell, World.size_drew] at hb)
        have HB := Lib.hid hb
        clear hb
        have s7 := HB.out.size
        (try simp only [World.size_alloc, World.size_setCell, World.size_drew] at s7)
        replace d1 := Lib.hid (d1.out.below HB.out (by omega))
        replace d2 := Lib.hid (d2.out.below HB.out (by omega))
        replace d3 := Lib.hid (d3.out.below HB.out (by omega))
        replace Bd := Lib.hid (Bd.out.below HB.out (by omega))
        replace l1 := Lib.hid (l1.out.below HB.out (by omega))
        replace x1 := Lib.hid (x1.out.below HB.out (by omega))
        replace x2 := Lib.hid (x2.out.below HB.out (by omega))
        replace x3 := Lib.hid (x3.out.below HB.out (by omega))
        replace Bx := Lib.hid (Bx.out.below HB.out (by omega))
        replace m1 := Lib.hid (m1.out.below HB.out (by omega))
        replace y1 := Lib.hid (y1.out.below HB.out (by omega))
        replace y2 := Lib.hid (y2.out.below HB.out (by omega))
        replace y3 := Lib.hid (y3.out.below HB.out (by omega))
        replace By := Lib.hid (By.out.below HB.out (by omega))
        replace EB := Lib.hid (below_step HB.out EB.out (by omega))
        clear HB
        go_wp2_with fail
        refine (equalInts_same l1.out m1.out rfl).mono ?_
        rintro e w8 ⟨rfl, hb⟩
        (try simp only [World.size_alloc, World.size_setCell, World.size_drew] at hb)
        have HB := Lib.hid hb
        clear hb
        have s8 := HB.out.size
        (try simp only [World.size_alloc, World.size_setCell, World.size_drew] at s8)
        replace d1 := Lib.hid (d1.out.below HB.out (by omega))
        replace d2 := Lib.hid (d2.out.below HB.out (by omega))
        replace d3 := Lib.hid (d3.out.below HB.out (by omega))
        replace Bd := Lib.hid (Bd.out.below HB.out (by omega))
        replace l1 := Lib.hid (l1.out.below HB.out (by omega))
        replace x1 := Lib.hid (x1.out.below HB.out (by omega))
        replace x2 := Lib.hid (x2.out.below HB.out (by omega))
        replace x3 := Lib.hid (x3.out.below HB.out (by omega))
        replace Bx := Lib.hid (Bx.out.below HB.out (by omega))
        replace m1 := Lib.hid (m1.out.below HB.out (by omega))
        replace y1 := Lib.hid (y1.out.below HB.out (by omega))
        replace y2 := Lib.hid (y2.out.below HB.out (by omega))
        replace y3 := Lib.hid (y3.out.below HB.out (by omega))
        replace By := Lib.hid (By.out.below HB.out (by omega))
        replace EB := Lib.hid (below_step HB.out EB.out (by omega))
        clear HB
        have vdl := Bd.out.lt
        have vd0 := (Bd.out.2 0 _ rfl).1
        have vd1 := (Bd.out.2 1 _ rfl).1
        have vd2 := (Bd.out.2 2 _ rfl).1
        have vd3 := (Bd.out.2 3 _ rfl).1
        have vd4 := (Bd.out.2 4 _ rfl).1
        have vd5 := (Bd.out.2 5 _ rfl).1
        go_wp2_with fail
        refine (to_boolN (IsSmooth_any d1.out d2.out (by omega) (by omega)) SM.out).mono ?_
        clear vdl vd0 vd1 vd2 vd3 vd4 vd5
        rintro e w9 ⟨rfl, hb⟩
        (try simp only [World.size_alloc, World.size_setCell, World.size_drew] at hb)
        have HB := Lib.hid hb
        clear hb
        have s9 := HB.out.size
        (try simp only [World.size_alloc, World.size_setCell, World.size_drew] at s9)
        replace d1 := Lib.hid (d1.out.below HB.out (by omega))
        replace d2 := Lib.hid (d2.out.below HB.out (by omega))
        replace d3 := Lib.hid (d3.out.below HB.out (by omega))
        replace Bd := Lib.hid (Bd.out.below HB.out (by omega))
        replace l1 := Lib.hid (l1.out.below HB.out (by omega))
        replace x1 := Lib.hid (x1.out.below HB.out (by omega))
        replace x2 := Lib.hid (x2.out.below HB.out (by omega))
        replace x3 := Lib.hid (x3.out.below HB.out (by omega))
        replace Bx := Lib.hid (Bx.out.below HB.out (by omega))
        replace m1 := Lib.hid (m1.out.below HB.out (by omega))
        replace y1 := Lib.hid (y1.out.below HB.out (by omega))
        replace y2 := Lib.hid (y2.out.below HB.out (by omega))
        replace y3 := Lib.hid (y3.out.below HB.out (by omega))
        replace By := Lib.hid (By.out.below HB.out (by omega))
        replace EB := Lib.hid (below_step HB.out EB.out (by omega))
        clear HB
        have vdl := Bd.out.lt
        have vd0 := (Bd.out.2 0 _ rfl).1
        have vd1 := (Bd.out.2 1 _ rfl).1
        have vd2 := (Bd.out.2 2 _ rfl).1
        have vd3 := (Bd.out.2 3 _ rfl).1
        have vd4 := (Bd.out.2 4 _ rfl).1
        have vd5 := (Bd.out.2 5 _ rfl).1
        go_wp2_with fail
        refine (to_rli (ReadFull_x d1.out d2.out d3.out (by omega) (by omega) (by omega) hcd hcd' hkd (by omega) (by omega) (by omega) (by unfold okInt; omega)) HO1.out).mono ?_
        clear vdl vd0 vd1 vd2 vd3 vd4 vd5
        rintro e w10 ⟨Aa, na, ca, Aa', na', ca', Ea, ma, ka, Af, nf, cf, rfl, ⟨hca, hca', hka, hcf⟩, hb, hd, hd', hr, hl⟩
        (try simp only [World.size_alloc, World.size_setCell, World.size_drew] at hb)
        have HB := Lib.hid hb
        clear hb
        have s10 := HB.out.size
        (try simp only [World.size_alloc, World.size_setCell, World.size_drew] at s10)
        replace d1 := Lib.hid (d1.out.below HB.out (by omega))
        replace d2 := Lib.hid (d2.out.below HB.out (by omega))
        replace d3 := Lib.hid (d3.out.below HB.out (by omega))
        replace Bd := Lib.hid (Bd.out.below HB.out (by omega))
        replace l1 := Lib.hid (l1.out.below HB.out (by omega))
        replace x1 := Lib.hid (x1.out.below HB.out (by omega))
        replace x2 := Lib.hid (x2.out.below HB.out (by omega))
        replace x3 := Lib.hid (x3.out.below HB.out (by omega))
        replace Bx := Lib.hid (Bx.out.below HB.out (by omega))
        replace m1 := Lib.hid (m1.out.below HB.out (by omega))
        replace y1 := Lib.hid (y1.out.below HB.out (by omega))
        replace y2 := Lib.hid (y2.out.below HB.out (by omega))
        replace y3 := Lib.hid (y3.out.below HB.out (by omega))
        replace By := Lib.hid (By.out.below HB.out (by omega))
        replace EB := Lib.hid (below_step HB.out EB.out (by omega))
        clear HB
        have f1 := Lib.hid hl
        have a1 := Lib.hid hd
        have a2 := Lib.hid hd'
        have a3 := Lib.hid hr
        clear hd hd' hr hl
        have hl1 : (nf : Int) < (K : Int) := by rw [f1.out.len]; exact HLT.out
        have hl1n : nf < K := by omega
        go_wp2_with fail
        replace d1 := Lib.hid (d1.out.alloc (by omega) (.cells #[.slice Aa na ca, .int .i64 (P1), .slice Aa' na' ca', .int .i64 (Q1), .slice Ea ma ka, .int .i64 (yd)] 27))
        replace d2 := Lib.hid (d2.out.alloc (by omega) (.cells #[.slice Aa na ca, .int .i64 (P1), .slice Aa' na' ca', .int .i64 (Q1), .slice Ea ma ka, .int .i64 (yd)] 27))
        replace d3 := Lib.hid (d3.out.alloc (by omega) (.cells #[.slice Aa na ca, .int .i64 (P1), .slice Aa' na' ca', .int .i64 (Q1), .slice Ea ma ka, .int .i64 (yd)] 27))
        replace Bd := Lib.hid (Bd.out.alloc (.cells #[.slice Aa na ca, .int .i64 (P1), .slice Aa' na' ca', .int .i64 (Q1), .slice Ea ma ka, .int .i64 (yd)] 27))
        replace l1 := Lib.hid (l1.out.alloc (by omega) (.cells #[.slice Aa na ca, .int .i64 (P1), .slice Aa' na' ca', .int .i64 (Q1), .slice Ea ma ka, .int .i64 (yd)] 27))
        replace x1 := Lib.hid (x1.out.alloc (by omega) (.cells #[.slice Aa na ca, .int .i64 (P1), .slice Aa' na' ca', .int .i64 (Q1), .slice Ea ma ka, .int .i64 (yd)] 27))
        replace x2 := Lib.hid (x2.out.alloc (by omega) (.cells #[.slice Aa na ca, .int .i64 (P1), .slice Aa' na' ca', .int .i64 (Q1), .slice Ea ma ka, .int .i64 (yd)] 27))
        replace x3 := Lib.hid (x3.out.alloc (by omega) (.cells #[.slice Aa na ca, .int .i64 (P1), .slice Aa' na' ca', .int .i64 (Q1), .slice Ea ma ka, .int .i64 (yd)] 27))
        replace Bx := Lib.hid (Bx.out.alloc (.cells #[.slice Aa na ca, .int .i64 (P1), .slice Aa' na' ca', .int .i64 (Q1), .slice Ea ma ka, .int .i64 (yd)] 27))
        replace m1 := Lib.hid (m1.out.alloc (by omega) (.cells #[.slice Aa na ca, .int .i64 (P1), .slice Aa' na' ca', .int .i64 (Q1), .slice Ea ma ka, .int .i64 (yd)] 27))
        replace y1 := Lib.hid (y1.out.alloc (by omega) (.cells #[.slice Aa na ca, .int .i64 (P1), .slice Aa' na' ca', .int .i64 (Q1), .slice Ea ma ka, .int .i64 (yd)] 27))
        replace y2 := Lib.hid (y2.out.alloc (by omega) (.cells #[.slice Aa na ca, .int .i64 (P1), .slice Aa' na' ca', .int .i64 (Q1), .slice Ea ma ka, .int .i64 (yd)] 27))
        replace y3 := Lib.hid (y3.out.alloc (by omega) (.cells #[.slice Aa na ca, .int .i64 (P1), .slice Aa' na' ca', .int .i64 (Q1), .slice Ea ma ka, .int .i64 (yd)] 27))
        replace By := Lib.hid (By.out.alloc (.cells #[.slice Aa na ca, .int .i64 (P1), .slice Aa' na' ca', .int .i64 (Q1), .slice Ea ma ka, .int .i64 (yd)] 27))
        replace f1 := Lib.hid (f1.out.alloc (by omega) (.cells #[.slice Aa na ca, .int .i64 (P1), .slice Aa' na' ca', .int .i64 (Q1), .slice Ea ma ka, .int .i64 (yd)] 27))
        replace a1 := Lib.hid (a1.out.alloc (by omega) (.cells #[.slice Aa na ca, .int .i64 (P1), .slice Aa' na' ca', .int .i64 (Q1), .slice Ea ma ka, .int .i64 (yd)] 27))
        replace a2 := Lib.hid (a2.out.alloc (by omega) (.cells #[.slice Aa na ca, .int .i64 (P1), .slice Aa' na' ca', .int .i64 (Q1), .slice Ea ma ka, .int .i64 (yd)] 27))
        replace a3 := Lib.hid (a3.out.alloc (by omega) (.cells #[.slice Aa na ca, .int .i64 (P1), .slice Aa' na' ca', .int .i64 (Q1), .slice Ea ma ka, .int .i64 (yd)] 27))
        replace EB := Lib.hid (EB.out.alloc (by omega) (.cells #[.slice Aa na ca, .int .i64 (P1), .slice Aa' na' ca', .int .i64 (Q1), .slice Ea ma ka, .int .i64 (yd)] 27))
        have Ba := Lib.hid (Box.new w10 27 [.slice Aa na ca, .int .i64 (P1), .slice Aa' na' ca', .int .i64 (Q1), .slice Ea ma ka, .int .i64 (yd)])
        have s11 : w10.heap.size + 1 ≤ (w10.alloc (.cells #[.slice Aa na ca, .int .i64 (P1), .slice Aa' na' ca', .int .i64 (Q1), .slice Ea ma ka, .int .i64 (yd)] 27)).heap.size := by simp
        generalize w10.alloc (.cells #[.slice Aa na ca, .int .i64 (P1), .slice Aa' na' ca', .int .i64 (Q1), .slice Ea ma ka, .int .i64 (yd)] 27) = w11 at *
        go_wp2
        go_ret
        exact ⟨ret_bool (by first | (simp; done) | (simp; omega)), EB.out⟩
      · subst hst1
        have HNX := Lib.hid hnext
        clear hnext
        refine (to_rli (ReadFull_x d1.out d2.out d3.out (by omega) (by omega) (by omega) hcd hcd' hkd (by omega) (by omega) (by omega) (by unfold okInt; omega)) HO.out).mono ?_
        rintro e w3 ⟨Ax, nx, cx, Ax', nx', cx', Ex, mx, kx, Al, nl, cl, rfl, ⟨hcx, hcx', hkx, hcl⟩, hb, hd, hd', hr, hl⟩
        (try simp only [World.size_alloc, World.size_setCell, World.size_drew] at hb)
        have HB := Lib.hid hb
        clear hb
        have s3 := HB.out.size
        (try simp only [World.size_alloc, World.size_setCell, World.size_drew] at s3)
        replace d1 := Lib.hid (d1.out.below HB.out (by omega))
        replace d2 := Lib.hid (d2.out.below HB.out (by omega))
        replace d3 := Lib.hid (d3.out.below HB.out (by omega))
        replace Bd := Lib.hid (Bd.out.below HB.out (by omega))
        replace EB := Lib.hid (below_step HB.out EB.out (by omega))
        clear HB
        have l1 := Lib.hid hl
        have x1 := Lib.hid hd
        have x2 := Lib.hid hd'
        have x3 := Lib.hid hr
        clear hd hd' hr hl
        have vdl := Bd.out.lt
        have vd0 := (Bd.out.2 0 _ rfl).1
        have vd1 := (Bd.out.2 1 _ rfl).1
        have vd2 := (Bd.out.2 2 _ rfl).1
        have vd3 := (Bd.out.2 3 _ rfl).1
        have vd4 := (Bd.out.2 4 _ rfl).1
        have vd5 := (Bd.out.2 5 _ rfl).1
        go_wp2_with fail
        clear vdl vd0 vd1 vd2 vd3 vd4 vd5
        replace d1 := Lib.hid (d1.out.alloc (by omega) (.cells #[.slice Ax nx cx, .int .i64 (P), .slice Ax' nx' cx', .int .i64 (Q), .slice Ex mx kx, .int .i64 (yd)] 27))
        replace d2 := Lib.hid (d2.out.alloc (by omega) (.cells #[.slice Ax nx cx, .int .i64 (P), .slice Ax' nx' cx', .int .i64 (Q), .slice Ex mx kx, .int .i64 (yd)] 27))
        replace d3 := Lib.hid (d3.out.alloc (by omega) (.cells #[.slice Ax nx cx, .int .i64 (P), .slice Ax' nx' cx', .int .i64 (Q), .slice Ex mx kx, .int .i64 (yd)] 27))
        replace Bd := Lib.hid (Bd.out.alloc (.cells #[.slice Ax nx cx, .int .i64 (P), .slice Ax' nx' cx', .int .i64 (Q), .slice Ex mx kx, .int .i64 (yd)] 27))
        replace l1 := Lib.hid (l1.out.alloc (by omega) (.cells #[.slice Ax nx cx, .int .i64 (P), .slice Ax' nx' cx', .int .i64 (Q), .slice Ex mx kx, .int .i64 (yd)] 27))
        replace x1 := Lib.hid (x1.out.alloc (by omega) (.cells #[.slice Ax nx cx, .int .i64 (P), .slice Ax' nx' cx', .int .i64 (Q), .slice Ex mx kx, .int .i64 (yd)] 27))
        replace x2 := Lib.hid (x2.out.alloc (by omega) (.cells #[.slice Ax nx cx, .int .i64 (P), .slice Ax' nx' cx', .int .i64 (Q), .slice Ex mx kx, .int .i64 (yd)] 27))
        replace x3 := Lib.hid (x3.out.alloc (by omega) (.cells #[.slice Ax nx cx, .int .i64 (P), .slice Ax' nx' cx', .int .i64 (Q), .slice Ex mx kx, .int .i64 (yd)] 27))
        replace EB := Lib.hid (EB.out.alloc (by omega) (.cells #[.slice Ax nx cx, .int .i64 (P), .slice Ax' nx' cx', .int .i64 (Q), .slice Ex mx kx, .int .i64 (yd)] 27))
        have Bx := Lib.hid (Box.new w3 27 [.slice Ax nx cx, .int .i64 (P), .slice Ax' nx' cx', .int .i64 (Q), .slice Ex mx kx, .int .i64 (yd)])
        have s4 : w3.heap.size + 1 ≤ (w3.alloc (.cells #[.slice Ax nx cx, .int .i64 (P), .slice Ax' nx' cx', .int .i64 (Q), .slice Ex mx kx, .int .i64 (yd)] 27)).heap.size := by simp
        generalize w3.alloc (.cells #[.slice Ax nx cx, .int .i64 (P), .slice Ax' nx' cx', .int .i64 (Q), .slice Ex mx kx, .int .i64 (yd)] 27) = w4 at *
        refine (to_rli (SReadFull_x d1.out d2.out d3.out (by omega) (by omega) (by omega) hcd hcd' hkd (by omega) (by omega) (by omega) (by unfold okInt; omega)) HO.out).mono ?_
        rintro e w5 ⟨Ay, ny, cy, Ay', ny', cy', Ey, my, ky, Am, nm, cm, rfl, ⟨hcy, hcy', hky, hcm⟩, hb, hd, hd', hr, hl⟩
        (try simp only [World.size_alloc, World.size_setCell, World.size_drew] at hb)
        have HB := Lib.hid hb
        clear hb
        have s5 := HB.out.size
        (try simp only [World.size_alloc, World.size_setCell, World.size_drew] at s5)
        replace d1 := Lib.hid (d1.out.below HB.out (by omega))
        replace d2 := Lib.hid (d2.out.below HB.out (by omega))
        replace d3 := Lib.hid (d3.out.below HB.out (by omega))
        replace Bd := Lib.hid (Bd.out.below HB.out (by omega))
        replace l1 := Lib.hid (l1.out.below HB.out (by omega))
        replace x1 := Lib.hid (x1.out.below HB.out (by omega))
        replace x2 := Lib.hid (x2.out.below HB.out (by omega))
        replace x3 := Lib.hid (x3.out.below HB.out (by omega))
        replace Bx := Lib.hid (Bx.out.below HB.out (by omega))
        replace EB := Lib.hid (below_step HB.out EB.out (by omega))
        clear HB
        have m1 := Lib.hid hl
        have y1 := Lib.hid hd
        have y2 := Lib.hid hd'
        have y3 := Lib.hid hr
        clear hd hd' hr hl
        have vxl := Bx.out.lt
        have vx0 := (Bx.out.2 0 _ rfl).1
        have vx1 := (Bx.out.2 1 _ rfl).1
        have vx2 := (Bx.out.2 2 _ rfl).1
        have vx3 := (Bx.out.2 3 _ rfl).1
        have vx4 := (Bx.out.2 4 _ rfl).1
        have vx5 := (Bx.out.2 5 _ rfl).1
        go_wp2_with fail
        clear vxl vx0 vx1 vx2 vx3 vx4 vx5
        replace d1 := Lib.hid (d1.out.alloc (by omega) (.cells #[.slice Ay ny cy, .int .i64 (P), .slice Ay' ny' cy', .int .i64 (Q), .slice Ey my ky, .int .i64 (yd)] 27))
        replace d2 := Lib.hid (d2.out.alloc (by omega) (.cells #[.slice Ay ny cy, .int .i64 (P), .slice Ay' ny' cy', .int .i64 (Q), .slice Ey my ky, .int .i64 (yd)] 27))
        replace d3 := Lib.hid (d3.out.alloc (by omega) (.cells #[.slice Ay ny cy, .int .i64 (P), .slice Ay' ny' cy', .int .i64 (Q), .slice Ey my ky, .int .i64 (yd)] 27))
        replace Bd := Lib.hid (Bd.out.alloc (.cells #[.slice Ay ny cy, .int .i64 (P), .slice Ay' ny' cy', .int .i64 (Q), .slice Ey my ky, .int .i64 (yd)] 27))
        replace l1 := Lib.hid (l1.out.alloc (by omega) (.cells #[.slice Ay ny cy, .int .i64 (P), .slice Ay' ny' cy', .int .i64 (Q), .slice Ey my ky, .int .i64 (yd)] 27))
        replace x1 := Lib.hid (x1.out.alloc (by omega) (.cells #[.slice Ay ny cy, .int .i64 (P), .slice Ay' ny' cy', .int .i64 (Q), .slice Ey my ky, .int .i64 (yd)] 27))
        replace x2 := Lib.hid (x2.out.alloc (by omega) (.cells #[.slice Ay ny cy, .int .i64 (P), .slice Ay' ny' cy', .int .i64 (Q), .slice Ey my ky, .int .i64 (yd)] 27))
        replace x3 := Lib.hid (x3.out.alloc (by omega) (.cells #[.slice Ay ny cy, .int .i64 (P), .slice Ay' ny' cy', .int .i64 (Q), .slice Ey my ky, .int .i64 (yd)] 27))
        replace Bx := Lib.hid (Bx.out.alloc (.cells #[.slice Ay ny cy, .int .i64 (P), .slice Ay' ny' cy', .int .i64 (Q), .slice Ey my ky, .int .i64 (yd)] 27))
        replace m1 := Lib.hid (m1.out.alloc (by omega) (.cells #[.slice Ay ny cy, .int .i64 (P), .slice Ay' ny' cy', .int .i64 (Q), .slice Ey my ky, .int .i64 (yd)] 27))
        replace y1 := Lib.hid (y1.out.alloc (by omega) (.cells #[.slice Ay ny cy, .int .i64 (P), .slice Ay' ny' cy', .int .i64 (Q), .slice Ey my ky, .int .i64 (yd)] 27))
        replace y2 := Lib.hid (y2.out.alloc (by omega) (.cells #[.slice Ay ny cy, .int .i64 (P), .slice Ay' ny' cy', .int .i64 (Q), .slice Ey my ky, .int .i64 (yd)] 27))
        replace y3 := Lib.hid (y3.out.alloc (by omega) (.cells #[.slice Ay ny cy, .int .i64 (P), .slice Ay' ny' cy', .int .i64 (Q), .slice Ey my ky, .int .i64 (yd)] 27))
        replace EB := Lib.hid (EB.out.alloc (by omega) (.cells #[.slice Ay ny cy, .int .i64 (P), .slice Ay' ny' cy', .int .i64 (Q), .slice Ey my ky, .int .i64 (yd)] 27))
        have By := Lib.hid (Box.new w5 27 [.slice Ay ny cy, .int .i64 (P), .slice Ay' ny' cy', .int .i64 (Q), .slice Ey my ky, .int .i64 (yd)])
        have s6 : w5.heap.size + 1 ≤ (w5.alloc (.cells #[.slice Ay ny cy, .int .i64 (P), .slice Ay' ny' cy', .int .i64 (Q), .slice Ey my ky, .int .i64 (yd)] 27)).heap.size := by simp
        generalize w5.alloc (.cells #[.slice Ay ny cy, .int .i64 (P), .slice Ay' ny' cy', .int .i64 (Q), .slice Ey my ky, .int .i64 (yd)] 27) = w6 at *
        refine (equalReader_same x1.out x2.out x3.out y1.out y2.out y3.out (by omega) (by omega) (by omega) (by omega) (by omega) (by omega)).mono ?_
        rintro e w7 ⟨rfl, hb⟩
        (try simp only [World.size_alloc, World.size_setCell, World.size_drew] at hb)
        have HB := Lib.hid hb
        clear hb
        have s7 := HB.out.size
        (try simp only [World.size_alloc, World.size_setCell, World.size_drew] at s7)
        replace d1 := Lib.hid (d1.out.below HB.out (by omega))
        replace d2 := Lib.hid (d2.out.below HB.out (by omega))
        replace d3 := Lib.hid (d3.out.below HB.out (by omega))
        replace Bd := Lib.hid (Bd.out.below HB.out (by omega))
        replace l1 := Lib.hid (l1.out.below HB.out (by omega))
        replace x1 := Lib.hid (x1.out.below HB.out (by omega))
        replace x2 := Lib.hid (x2.out.below HB.out (by omega))
        replace x3 := Lib.hid (x3.out.below HB.out (by omega))
        replace Bx := Lib.hid (Bx.out.below HB.out (by omega))
        replace m1 := Lib.hid (m1.out.below HB.out (by omega))
        replace y1 := Lib.hid (y1.out.below HB.out (by omega))
        replace y2 := Lib.hid (y2.out.below HB.out (by omega))
        replace y3 := Lib.hid (y3.out.below HB.out (by omega))
        replace By := Lib.hid (By.out.below HB.out (by omega))
        replace EB := Lib.hid (below_step HB.out EB.out (by omega))
        clear HB
        go_wp2_with fail
        refine (equalInts_same l1.out m1.out rfl).mono ?_
        rintro e w8 ⟨rfl, hb⟩
        (try simp only [World.size_alloc, World.size_setCell, World.size_drew] at hb)
        have HB := Lib.hid hb
        clear hb
        have s8 := HB.out.size
        (try simp only [World.size_alloc, World.size_setCell, World.size_drew] at s8)
        replace d1 := Lib.hid (d1.out.below HB.out (by omega))
        replace d2 := Lib.hid (d2.out.below HB.out (by omega))
        replace d3 := Lib.hid (d3.out.below HB.out (by omega))
        replace Bd := Lib.hid (Bd.out.below HB.out (by omega))
        replace l1 := Lib.hid (l1.out.below HB.out (by omega))
        replace x1 := Lib.hid (x1.out.below HB.out (by omega))
        replace x2 := Lib.hid (x2.out.below HB.out (by omega))
        replace x3 := Lib.hid (x3.out.below HB.out (by omega))
        replace Bx := Lib.hid (Bx.out.below HB.out (by omega))
        replace m1 := Lib.hid (m1.out.below HB.out (by omega))
        replace y1 := Lib.hid (y1.out.below HB.out (by omega))
        replace y2 := Lib.hid (y2.out.below HB.out (by omega))
        replace y3 := Lib.hid (y3.out.below HB.out (by omega))
        replace By := Lib.hid (By.out.below HB.out (by omega))
        replace EB := Lib.hid (below_step HB.out EB.out (by omega))
        clear HB
        have vdl := Bd.out.lt
        have vd0 := (Bd.out.2 0 _ rfl).1
        have vd1 := (Bd.out.2 1 _ rfl).1
        have vd2 := (Bd.out.2 2 _ rfl).1
        have vd3 := (Bd.out.2 3 _ rfl).1
        have vd4 := (Bd.out.2 4 _ rfl).1
        have vd5 := (Bd.out.2 5 _ rfl).1
        go_wp2_with fail
        refine (to_boolN (IsSmooth_any d1.out d2.out (by omega) (by omega)) SM.out).mono ?_
        clear vdl vd0 vd1 vd2 vd3 vd4 vd5
        rintro e w9 ⟨rfl, hb⟩
        (try simp only [World.size_alloc, World.size_setCell, World.size_drew] at hb)
        have HB := Lib.hid hb
        clear hb
        have s9 := HB.out.size
        (try simp only [World.size_alloc, World.size_setCell, World.size_drew] at s9)
        replace d1 := Lib.hid (d1.out.below HB.out (by omega))
        replace d2 := Lib.hid (d2.out.below HB.out (by omega))
        replace d3 := Lib.hid (d3.out.below HB.out (by omega))
        replace Bd := Lib.hid (Bd.out.below HB.out (by omega))
        replace l1 := Lib.hid (l1.out.below HB.out (by omega))
        replace x1 := Lib.hid (x1.out.below HB.out (by omega))
        replace x2 := Lib.hid (x2.out.below HB.out (by omega))
        replace x3 := Lib.hid (x3.out.below HB.out (by omega))
        replace Bx := Lib.hid (Bx.out.below HB.out (by omega))
        replace m1 := Lib.hid (m1.out.below HB.out (by omega))
        replace y1 := Lib.hid (y1.out.below HB.out (by omega))
        replace y2 := Lib.hid (y2.out.below HB.out (by omega))
        replace y3 := Lib.hid (y3.out.below HB.out (by omega))
        replace By := Lib.hid (By.out.below HB.out (by omega))
        replace EB := Lib.hid (below_step HB.out EB.out (by omega))
        clear HB
        have vdl := Bd.out.lt
        have vd0 := (Bd.out.2 0 _ rfl).1
        have vd1 := (Bd.out.2 1 _ rfl).1
        have vd2 := (Bd.out.2 2 _ rfl).1
        have vd3 := (Bd.out.2 3 _ rfl).1
        have vd4 := (Bd.out.2 4 _ rfl).1
        have vd5 := (Bd.out.2 5 _ rfl).1
        go_wp2_with fail
        refine (to_rli (ReadFull_x d1.out d2.out d3.out (by omega) (by omega) (by omega) hcd hcd' hkd (by omega) (by omega) (by omega) (by unfold okInt; omega)) HO1.out).mono ?_
        clear vdl vd0 vd1 vd2 vd3 vd4 vd5
        rintro e w10 ⟨Aa, na, ca, Aa', na', ca', Ea, ma, ka, Af, nf, cf, rfl, ⟨hca, hca', hka, hcf⟩, hb, hd, hd', hr, hl⟩
        (try simp only [World.size_alloc, World.size_setCell, World.size_drew] at hb)
        have HB := Lib.hid hb
        clear hb
        have s10 := HB.out.size
        (try simp only [World.size_alloc, World.size_setCell, World.size_drew] at s10)
        replace d1 := Lib.hid (d1.out.below HB.out (by omega))
        replace d2 := Lib.hid (d2.out.below HB.out (by omega))
        replace d3 := Lib.hid (d3.out.below HB.out (by omega))
        replace Bd := Lib.hid (Bd.out.below HB.out (by omega))
        replace l1 := Lib.hid (l1.out.below HB.out (by omega))
        replace x1 := Lib.hid (x1.out.below HB.out (by omega))
        replace x2 := Lib.hid (x2.out.below HB.out (by omega))
        replace x3 := Lib.hid (x3.out.below HB.out (by omega))
        replace Bx := Lib.hid (Bx.out.below HB.out (by omega))
        replace m1 := Lib.hid (m1.out.below HB.out (by omega))
        replace y1 := Lib.hid (y1.out.below HB.out (by omega))
        replace y2 := Lib.hid (y2.out.below HB.out (by omega))
        replace y3 := Lib.hid (y3.out.below HB.out (by omega))
        replace By := Lib.hid (By.out.below HB.out (by omega))
        replace EB := Lib.hid (below_step HB.out EB.out (by omega))
        clear HB
        have f1 := Lib.hid hl
        have a1 := Lib.hid hd
        have a2 := Lib.hid hd'
        have a3 := Lib.hid hr
        clear hd hd' hr hl
        have hma : ma ≤ 16 := by rw [a3.out.len]; exact R2L.out
        by_cases hq9 : (900 : Int) < Q1
        · go_wp2_with fail
          replace d1 := Lib.hid (d1.out.alloc (by omega) (.cells #[.slice Aa na ca, .int .i64 (P1), .slice Aa' na' ca', .int .i64 (Q1), .slice Ea ma ka, .int .i64 (yd)] 27))
          replace d2 := Lib.hid (d2.out.alloc (by omega) (.cells #[.slice Aa na ca, .int .i64 (P1), .slice Aa' na' ca', .int .i64 (Q1), .slice Ea ma ka, .int .i64 (yd)] 27))
          replace d3 := Lib.hid (d3.out.alloc (by omega) (.cells #[.slice Aa na ca, .int .i64 (P1), .slice Aa' na' ca', .int .i64 (Q1), .slice Ea ma ka, .int .i64 (yd)] 27))
          replace Bd := Lib.hid (Bd.out.alloc (.cells #[.slice Aa na ca, .int .i64 (P1), .slice Aa' na' ca', .int .i64 (Q1), .slice Ea ma ka, .int .i64 (yd)] 27))
          replace l1 := Lib.hid (l1.out.alloc (by omega) (.cells #[.slice Aa na ca, .int .i64 (P1), .slice Aa' na' ca', .int .i64 (Q1), .slice Ea ma ka, .int .i64 (yd)] 27))
          replace x1 := Lib.hid (x1.out.alloc (by omega) (.cells #[.slice Aa na ca, .int .i64 (P1), .slice Aa' na' ca', .int .i64 (Q1), .slice Ea ma ka, .int .i64 (yd)] 27))
          replace x2 := Lib.hid (x2.out.alloc (by omega) (.cells #[.slice Aa na ca, .int .i64 (P1), .slice Aa' na' ca', .int .i64 (Q1), .slice Ea ma ka, .int .i64 (yd)] 27))
          replace x3 := Lib.hid (x3.out.alloc (by omega) (.cells #[.slice Aa na ca, .int .i64 (P1), .slice Aa' na' ca', .int .i64 (Q1), .slice Ea ma ka, .int .i64 (yd)] 27))
          replace Bx := Lib.hid (Bx.out.alloc (.cells #[.slice Aa na ca, .int .i64 (P1), .slice Aa' na' ca', .int .i64 (Q1), .slice Ea ma ka, .int .i64 (yd)] 27))
          replace m1 := Lib.hid (m1.out.alloc (by omega) (.cells #[.slice Aa na ca, .int .i64 (P1), .slice Aa' na' ca', .int .i64 (Q1), .slice Ea ma ka, .int .i64 (yd)] 27))
          replace y1 := Lib.hid (y1.out.alloc (by omega) (.cells #[.slice Aa na ca, .int .i64 (P1), .slice Aa' na' ca', .int .i64 (Q1), .slice Ea ma ka, .int .i64 (yd)] 27))
          replace y2 := Lib.hid (y2.out.alloc (by omega) (.cells #[.slice Aa na ca, .int .i64 (P1), .slice Aa' na' ca', .int .i64 (Q1), .slice Ea ma ka, .int .i64 (yd)] 27))
          replace y3 := Lib.hid (y3.out.alloc (by omega) (.cells #[.slice Aa na ca, .int .i64 (P1), .slice Aa' na' ca', .int .i64 (Q1), .slice Ea ma ka, .int .i64 (yd)] 27))
          replace By := Lib.hid (By.out.alloc (.cells #[.slice Aa na ca, .int .i64 (P1), .slice Aa' na' ca', .int .i64 (Q1), .slice Ea ma ka, .int .i64 (yd)] 27))
          replace f1 := Lib.hid (f1.out.alloc (by omega) (.cells #[.slice Aa na ca, .int .i64 (P1), .slice Aa' na' ca', .int .i64 (Q1), .slice Ea ma ka, .int .i64 (yd)] 27))
          replace a1 := Lib.hid (a1.out.alloc (by omega) (.cells #[.slice Aa na ca, .int .i64 (P1), .slice Aa' na' ca', .int .i64 (Q1), .slice Ea ma ka, .int .i64 (yd)] 27))
          replace a2 := Lib.hid (a2.out.alloc (by omega) (.cells #[.slice Aa na ca, .int .i64 (P1), .slice Aa' na' ca', .int .i64 (Q1), .slice Ea ma ka, .int .i64 (yd)] 27))
          replace a3 := Lib.hid (a3.out.alloc (by omega) (.cells #[.slice Aa na ca, .int .i64 (P1), .slice Aa' na' ca', .int .i64 (Q1), .slice Ea ma ka, .int .i64 (yd)] 27))
          replace EB := Lib.hid (EB.out.alloc (by omega) (.cells #[.slice Aa na ca, .int .i64 (P1), .slice Aa' na' ca', .int .i64 (Q1), .slice Ea ma ka, .int .i64 (yd)] 27))
          have Ba := Lib.hid (Box.new w10 27 [.slice Aa na ca, .int .i64 (P1), .slice Aa' na' ca', .int .i64 (Q1), .slice Ea ma ka, .int .i64 (yd)])
          have s11 : w10.heap.size + 1 ≤ (w10.alloc (.cells #[.slice Aa na ca, .int .i64 (P1), .slice Aa' na' ca', .int .i64 (Q1), .slice Ea ma ka, .int .i64 (yd)] 27)).heap.size := by simp
          generalize w10.alloc (.cells #[.slice Aa na ca, .int .i64 (P1), .slice Aa' na' ca', .int .i64 (Q1), .slice Ea ma ka, .int .i64 (yd)] 27) = w11 at *
          go_wp2
          go_ret
          exact ⟨rfl, EB.out⟩
        · go_wp2_with fail
          replace d1 := Lib.hid (d1.out.alloc (by omega) (.cells #[.slice Aa na ca, .int .i64 (P1), .slice Aa' na' ca', .int .i64 (Q1), .slice Ea ma ka, .int .i64 (yd)] 27))
          replace d2 := Lib.hid (d2.out.alloc (by omega) (.cells #[.slice Aa na ca, .int .i64 (P1), .slice Aa' na' ca', .int .i64 (Q1), .slice Ea ma ka, .int .i64 (yd)] 27))
          replace d3 := Lib.hid (d3.out.alloc (by omega) (.cells #[.slice Aa na ca, .int .i64 (P1), .slice Aa' na' ca', .int .i64 (Q1), .slice Ea ma ka, .int .i64 (yd)] 27))
          replace Bd := Lib.hid (Bd.out.alloc (.cells #[.slice Aa na ca, .int .i64 (P1), .slice Aa' na' ca', .int .i64 (Q1), .slice Ea ma ka, .int .i64 (yd)] 27))
          replace l1 := Lib.hid (l1.out.alloc (by omega) (.cells #[.slice Aa na ca, .int .i64 (P1), .slice Aa' na' ca', .int .i64 (Q1), .slice Ea ma ka, .int .i64 (yd)] 27))
          replace x1 := Lib.hid (x1.out.alloc (by omega) (.cells #[.slice Aa na ca, .int .i64 (P1), .slice Aa' na' ca', .int .i64 (Q1), .slice Ea ma ka, .int .i64 (yd)] 27))
          replace x2 := Lib.hid (x2.out.alloc (by omega) (.cells #[.slice Aa na ca, .int .i64 (P1), .slice Aa' na' ca', .int .i64 (Q1), .slice Ea ma ka, .int .i64 (yd)] 27))
          replace x3 := Lib.hid (x3.out.alloc (by omega) (.cells #[.slice Aa na ca, .int .i64 (P1), .slice Aa' na' ca', .int .i64 (Q1), .slice Ea ma ka, .int .i64 (yd)] 27))
          replace Bx := Lib.hid (Bx.out.alloc (.cells #[.slice Aa na ca, .int .i64 (P1), .slice Aa' na' ca', .int .i64 (Q1), .slice Ea ma ka, .int .i64 (yd)] 27))
          replace m1 := Lib.hid (m1.out.alloc (by omega) (.cells #[.slice Aa na ca, .int .i64 (P1), .slice Aa' na' ca', .int .i64 (Q1), .slice Ea ma ka, .int .i64 (yd)] 27))
          replace y1 := Lib.hid (y1.out.alloc (by omega) (.cells #[.slice Aa na ca, .int .i64 (P1), .slice Aa' na' ca', .int .i64 (Q1), .slice Ea ma ka, .int .i64 (yd)] 27))
          replace y2 := Lib.hid (y2.out.alloc (by omega) (.cells #[.slice Aa na ca, .int .i64 (P1), .slice Aa' na' ca', .int .i64 (Q1), .slice Ea ma ka, .int .i64 (yd)] 27))
          replace y3 := Lib.hid (y3.out.alloc (by omega) (.cells #[.slice Aa na ca, .int .i64 (P1), .slice Aa' na' ca', .int .i64 (Q1), .slice Ea ma ka, .int .i64 (yd)] 27))
          replace By := Lib.hid (By.out.alloc (.cells #[.slice Aa na ca, .int .i64 (P1), .slice Aa' na' ca', .int .i64 (Q1), .slice Ea ma ka, .int .i64 (yd)] 27))
          replace f1 := Lib.hid (f1.out.alloc (by omega) (.cells #[.slice Aa na ca, .int .i64 (P1), .slice Aa' na' ca', .int .i64 (Q1), .slice Ea ma ka, .int .i64 (yd)] 27))
          replace a1 := Lib.hid (a1.out.alloc (by omega) (.cells #[.slice Aa na ca, .int .i64 (P1), .slice Aa' na' ca', .int .i64 (Q1), .slice Ea ma ka, .int .i64 (yd)] 27))
          replace a2 := Lib.hid (a2.out.alloc (by omega) (.cells #[.slice Aa na ca, .int .i64 (P1), .slice Aa' na' ca', .int .i64 (Q1), .slice Ea ma ka, .int .i64 (yd)] 27))
          replace a3 := Lib.hid (a3.out.alloc (by omega) (.cells #[.slice Aa na ca, .int .i64 (P1), .slice Aa' na' ca', .int .i64 (Q1), .slice Ea ma ka, .int .i64 (yd)] 27))
          replace EB := Lib.hid (EB.out.alloc (by omega) (.cells #[.slice Aa na ca, .int .i64 (P1), .slice Aa' na' ca', .int .i64 (Q1), .slice Ea ma ka, .int .i64 (yd)] 27))
          have Ba := Lib.hid (Box.new w10 27 [.slice Aa na ca, .int .i64 (P1), .slice Aa' na' ca', .int .i64 (Q1), .slice Ea ma ka, .int .i64 (yd)])
          have s11 : w10.heap.size + 1 ≤ (w10.alloc (.cells #[.slice Aa na ca, .int .i64 (P1), .slice Aa' na' ca', .int .i64 (Q1), .slice Ea ma ka, .int .i64 (yd)] 27)).heap.size := by simp
          generalize w10.alloc (.cells #[.slice Aa na ca, .int .i64 (P1), .slice Aa' na' ca', .int .i64 (Q1), .slice Ea ma ka, .int .i64 (yd)] 27) = w11 at *
          obtain ⟨P2, Q2, R3, L2, ho2, hl2, heq⟩ := HNX.out (by omega)
          have HO2 := Lib.hid ho2; have L2L := Lib.hid hl2; have EQL := Lib.hid heq
          clear ho2 hl2 heq HNX
          have hna : na ≤ 61 := by have h1 := a1.out.len; have h2 := d1.out.len; omega
          have hna' : na' ≤ 61 := by have h1 := a2.out.len; have h2 := d2.out.len; omega
          have val := Ba.out.lt
          have va0 := (Ba.out.2 0 _ rfl).1
          have va1 := (Ba.out.2 1 _ rfl).1
          have va2 := (Ba.out.2 2 _ rfl).1
          have va3 := (Ba.out.2 3 _ rfl).1
          have va4 := (Ba.out.2 4 _ rfl).1
          have va5 := (Ba.out.2 5 _ rfl).1
          go_wp2_with fail
          refine (to_rli (ReadFull_x a1.out a2.out a3.out (by omega) (by omega) (by omega) hca hca' hka (by omega) (by omega) (by omega) (by unfold okInt; omega)) HO2.out).mono ?_
          clear val va0 va1 va2 va3 va4 va5
          rintro e w12 ⟨Ab, nb, cb, Ab', nb', cb', Eb, mb, kb, Ag, ng, cg, rfl, ⟨hcb, hcb', hkb, hcg⟩, hb, hd, hd', hr, hl⟩
          (try simp only [World.size_alloc, World.size_setCell, World.size_drew] at hb)
          have HB := Lib.hid hb
          clear hb
          have s12 := HB.out.size
          (try simp only [World.size_alloc, World.size_setCell, World.size_drew] at s12)
          replace d1 := Lib.hid (d1.out.below HB.out (by omega))
          replace d2 := Lib.hid (d2.out.below HB.out (by omega))
          replace d3 := Lib.hid (d3.out.below HB.out (by omega))
          replace Bd := Lib.hid (Bd.out.below HB.out (by omega))
          replace l1 := Lib.hid (l1.out.below HB.out (by omega))
          replace x1 := Lib.hid (x1.out.below HB.out (by omega))
          replace x2 := Lib.hid (x2.out.below HB.out (by omega))
          replace x3 := Lib.hid (x3.out.below HB.out (by omega))
          replace Bx := Lib.hid (Bx.out.below HB.out (by omega))
          replace m1 := Lib.hid (m1.out.below HB.out (by omega))
          replace y1 := Lib.hid (y1.out.below HB.out (by omega))
          replace y2 := Lib.hid (y2.out.below HB.out (by omega))
          replace y3 := Lib.hid (y3.out.below HB.out (by omega))
          replace By := Lib.hid (By.out.below HB.out (by omega))
          replace f1 := Lib.hid (f1.out.below HB.out (by omega))
          replace a1 := Lib.hid (a1.out.below HB.out (by omega))
          replace a2 := Lib.hid (a2.out.below HB.out (by omega))
          replace a3 := Lib.hid (a3.out.below HB.out (by omega))
          replace Ba := Lib.hid (Ba.out.below HB.out (by omega))
          replace EB := Lib.hid (below_step HB.out EB.out (by omega))
          clear HB
          have g1 := Lib.hid hl
          have b1 := Lib.hid hd
          have b2 := Lib.hid hd'
          have b3 := Lib.hid hr
          clear hd hd' hr hl
          go_wp2_with fail
          replace d1 := Lib.hid (d1.out.alloc (by omega) (.cells #[.slice Ab nb cb, .int .i64 (P2), .slice Ab' nb' cb', .int .i64 (Q2), .slice Eb mb kb, .int .i64 (yd)] 27))
          replace d2 := Lib.hid (d2.out.alloc (by omega) (.cells #[.slice Ab nb cb, .int .i64 (P2), .slice Ab' nb' cb', .int .i64 (Q2), .slice Eb mb kb, .int .i64 (yd)] 27))
          replace d3 := Lib.hid (d3.out.alloc (by omega) (.cells #[.slice Ab nb cb, .int .i64 (P2), .slice Ab' nb' cb', .int .i64 (Q2), .slice Eb mb kb, .int .i64 (yd)] 27))
          replace Bd := Lib.hid (Bd.out.alloc (.cells #[.slice Ab nb cb, .int .i64 (P2), .slice Ab' nb' cb', .int .i64 (Q2), .slice Eb mb kb, .int .i64 (yd)] 27))
          replace l1 := Lib.hid (l1.out.alloc (by omega) (.cells #[.slice Ab nb cb, .int .i64 (P2), .slice Ab' nb' cb', .int .i64 (Q2), .slice Eb mb kb, .int .i64 (yd)] 27))
          replace x1 := Lib.hid (x1.out.alloc (by omega) (.cells #[.slice Ab nb cb, .int .i64 (P2), .slice Ab' nb' cb', .int .i64 (Q2), .slice Eb mb kb, .int .i64 (yd)] 27))
          replace x2 := Lib.hid (x2.out.alloc (by omega) (.cells #[.slice Ab nb cb, .int .i64 (P2), .slice Ab' nb' cb', .int .i64 (Q2), .slice Eb mb kb, .int .i64 (yd)] 27))
          replace x3 := Lib.hid (x3.out.alloc (by omega) (.cells #[.slice Ab nb cb, .int .i64 (P2), .slice Ab' nb' cb', .int .i64 (Q2), .slice Eb mb kb, .int .i64 (yd)] 27))
          replace Bx := Lib.hid (Bx.out.alloc (.cells #[.slice Ab nb cb, .int .i64 (P2), .slice Ab' nb' cb', .int .i64 (Q2), .slice Eb mb kb, .int .i64 (yd)] 27))
          replace m1 := Lib.hid (m1.out.alloc (by omega) (.cells #[.slice Ab nb cb, .int .i64 (P2), .slice Ab' nb' cb', .int .i64 (Q2), .slice Eb mb kb, .int .i64 (yd)] 27))
          replace y1 := Lib.hid (y1.out.alloc (by omega) (.cells #[.slice Ab nb cb, .int .i64 (P2), .slice Ab' nb' cb', .int .i64 (Q2), .slice Eb mb kb, .int .i64 (yd)] 27))
          replace y2 := Lib.hid (y2.out.alloc (by omega) (.cells #[.slice Ab nb cb, .int .i64 (P2), .slice Ab' nb' cb', .int .i64 (Q2), .slice Eb mb kb, .int .i64 (yd)] 27))
          replace y3 := Lib.hid (y3.out.alloc (by omega) (.cells #[.slice Ab nb cb, .int .i64 (P2), .slice Ab' nb' cb', .int .i64 (Q2), .slice Eb mb kb, .int .i64 (yd)] 27))
          replace By := Lib.hid (By.out.alloc (.cells #[.slice Ab nb cb, .int .i64 (P2), .slice Ab' nb' cb', .int .i64 (Q2), .slice Eb mb kb, .int .i64 (yd)] 27))
          replace f1 := Lib.hid (f1.out.alloc (by omega) (.cells #[.slice Ab nb cb, .int .i64 (P2), .slice Ab' nb' cb', .int .i64 (Q2), .slice Eb mb kb, .int .i64 (yd)] 27))
          replace a1 := Lib.hid (a1.out.alloc (by omega) (.cells #[.slice Ab nb cb, .int .i64 (P2), .slice Ab' nb' cb', .int .i64 (Q2), .slice Eb mb kb, .int .i64 (yd)] 27))
          replace a2 := Lib.hid (a2.out.alloc (by omega) (.cells #[.slice Ab nb cb, .int .i64 (P2), .slice Ab' nb' cb', .int .i64 (Q2), .slice Eb mb kb, .int .i64 (yd)] 27))
          replace a3 := Lib.hid (a3.out.alloc (by omega) (.cells #[.slice Ab nb cb, .int .i64 (P2), .slice Ab' nb' cb', .int .i64 (Q2), .slice Eb mb kb, .int .i64 (yd)] 27))
          replace Ba := Lib.hid (Ba.out.alloc (.cells #[.slice Ab nb cb, .int .i64 (P2), .slice Ab' nb' cb', .int .i64 (Q2), .slice Eb mb kb, .int .i64 (yd)] 27))
          replace g1 := Lib.hid (g1.out.alloc (by omega) (.cells #[.slice Ab nb cb, .int .i64 (P2), .slice Ab' nb' cb', .int .i64 (Q2), .slice Eb mb kb, .int .i64 (yd)] 27))
          replace b1 := Lib.hid (b1.out.alloc (by omega) (.cells #[.slice Ab nb cb, .int .i64 (P2), .slice Ab' nb' cb', .int .i64 (Q2), .slice Eb mb kb, .int .i64 (yd)] 27))
          replace b2 := Lib.hid (b2.out.alloc (by omega) (.cells #[.slice Ab nb cb, .int .i64 (P2), .slice Ab' nb' cb', .int .i64 (Q2), .slice Eb mb kb, .int .i64 (yd)] 27))
          replace b3 := Lib.hid (b3.out.alloc (by omega) (.cells #[.slice Ab nb cb, .int .i64 (P2), .slice Ab' nb' cb', .int .i64 (Q2), .slice Eb mb kb, .int .i64 (yd)] 27))
          replace EB := Lib.hid (EB.out.alloc (by omega) (.cells #[.slice Ab nb cb, .int .i64 (P2), .slice Ab' nb' cb', .int .i64 (Q2), .slice Eb mb kb, .int .i64 (yd)] 27))
          have Bb := Lib.hid (Box.new w12 27 [.slice Ab nb cb, .int .i64 (P2), .slice Ab' nb' cb', .int .i64 (Q2), .slice Eb mb kb, .int .i64 (yd)])
          have s13 : w12.heap.size + 1 ≤ (w12.alloc (.cells #[.slice Ab nb cb, .int .i64 (P2), .slice Ab' nb' cb', .int .i64 (Q2), .slice Eb mb kb, .int .i64 (yd)] 27)).heap.size := by simp
          generalize w12.alloc (.cells #[.slice Ab nb cb, .int .i64 (P2), .slice Ab' nb' cb', .int .i64 (Q2), .slice Eb mb kb, .int .i64 (yd)] 27) = w13 at *
          have hnf : nf ≤ 1048576 := by have h1 := f1.out.len; have h2 := L1L.out; omega
          have hng : ng ≤ 1048576 := by have h1 := g1.out.len; have h2 := L2L.out; omega
          refine (to_listN (join_any f1.out g1.out (by omega) (by omega) hnf hng) rfl).mono ?_
          rintro e w14 ⟨Aj, nj, cj, rfl, hcj, hb, hl⟩
          (try simp only [World.size_alloc, World.size_setCell, World.size_drew] at hb)
          have HB := Lib.hid hb
          clear hb
          have s14 := HB.out.size
          (try simp only [World.size_alloc, World.size_setCell, World.size_drew] at s14)
          replace d1 := Lib.hid (d1.out.below HB.out (by omega))
          replace d2 := Lib.hid (d2.out.below HB.out (by omega))
          replace d3 := Lib.hid (d3.out.below HB.out (by omega))
          replace Bd := Lib.hid (Bd.out.below HB.out (by omega))
          replace l1 := Lib.hid (l1.out.below HB.out (by omega))
          replace x1 := Lib.hid (x1.out.below HB.out (by omega))
          replace x2 := Lib.hid (x2.out.below HB.out (by omega))
          replace x3 := Lib.hid (x3.out.below HB.out (by omega))
          replace Bx := Lib.hid (Bx.out.below HB.out (by omega))
          replace m1 := Lib.hid (m1.out.below HB.out (by omega))
          replace y1 := Lib.hid (y1.out.below HB.out (by omega))
          replace y2 := Lib.hid (y2.out.below HB.out (by omega))
          replace y3 := Lib.hid (y3.out.below HB.out (by omega))
          replace By := Lib.hid (By.out.below HB.out (by omega))
          replace f1 := Lib.hid (f1.out.below HB.out (by omega))
          replace a1 := Lib.hid (a1.out.below HB.out (by omega))
          replace a2 := Lib.hid (a2.out.below HB.out (by omega))
          replace a3 := Lib.hid (a3.out.below HB.out (by omega))
          replace Ba := Lib.hid (Ba.out.below HB.out (by omega))
          replace g1 := Lib.hid (g1.out.below HB.out (by omega))
          replace b1 := Lib.hid (b1.out.below HB.out (by omega))
          replace b2 := Lib.hid (b2.out.below HB.out (by omega))
          replace b3 := Lib.hid (b3.out.below HB.out (by omega))
          replace Bb := Lib.hid (Bb.out.below HB.out (by omega))
          replace EB := Lib.hid (below_step HB.out EB.out (by omega))
          clear HB
          have j1 := Lib.hid hl
          clear hl
          go_wp2_with fail
          refine (to_boolN (equalInts_same j1.out l1.out EQL.out) rfl).mono ?_
          rintro e w15 ⟨rfl, hb⟩
          (try simp only [World.size_alloc, World.size_setCell, World.size_drew] at hb)
          have HB := Lib.hid hb
          clear hb
          have s15 := HB.out.size
          (try simp only [World.size_alloc, World.size_setCell, World.size_drew] at s15)
          replace d1 := Lib.hid (d1.out.below HB.out (by omega))
          replace d2 := Lib.hid (d2.out.below HB.out (by omega))
          replace d3 := Lib.hid (d3.out.below HB.out (by omega))
          replace Bd := Lib.hid (Bd.out.below HB.out (by omega))
          replace l1 := Lib.hid (l1.out.below HB.out (by omega))
          replace x1 := Lib.hid (x1.out.below HB.out (by omega))
          replace x2 := Lib.hid (x2.out.below HB.out (by omega))
          replace x3 := Lib.hid (x3.out.below HB.out (by omega))
          replace Bx := Lib.hid (Bx.out.below HB.out (by omega))
          replace m1 := Lib.hid (m1.out.below HB.out (by omega))
          replace y1 := Lib.hid (y1.out.below HB.out (by omega))
          replace y2 := Lib.hid (y2.out.below HB.out (by omega))
          replace y3 := Lib.hid (y3.out.below HB.out (by omega))
          replace By := Lib.hid (By.out.below HB.out (by omega))
          replace f1 := Lib.hid (f1.out.below HB.out (by omega))
          replace a1 := Lib.hid (a1.out.below HB.out (by omega))
          replace a2 := Lib.hid (a2.out.below HB.out (by omega))
          replace a3 := Lib.hid (a3.out.below HB.out (by omega))
          replace Ba := Lib.hid (Ba.out.below HB.out (by omega))
          replace g1 := Lib.hid (g1.out.below HB.out (by omega))
          replace b1 := Lib.hid (b1.out.below HB.out (by omega))
          replace b2 := Lib.hid (b2.out.below HB.out (by omega))
          replace b3 := Lib.hid (b3.out.below HB.out (by omega))
          replace Bb := Lib.hid (Bb.out.below HB.out (by omega))
          replace j1 := Lib.hid (j1.out.below HB.out (by omega))
          replace EB := Lib.hid (below_step HB.out EB.out (by omega))
          clear HB
          go_wp2
          go_ret
          exact ⟨rfl, EB.out⟩

theorem contract (H : Type) (enc : TypeId × Value → H) (W : World) (base : Nat) (args : Array Value) (ds gs : List (DataW H)) (before : List MemPlace)
    (hval : ∀ (j : Nat) t v, Try.f4.params[j]? = some t → args[j]? = some v → Value.okWide Try.prog W .any base t v)
    (hW : DataW.Whole enc Try.prog Try.f4.params.toList Rows.fnReadFullTwiceSpec.vars false W args.toList ds gs before) :
    Calls Try.prog 4 args W fun e W' => ∃ v, e = .returned v ∧ Rows.fnReadFullTwiceSpec.post enc Try.prog Try.f4 false true false false W args v W' := by
  have hW' := hW
  have hlt : ∀ p ∈ before, p.block < W.heap.size := fun p hp => hW.lt p hp
  obtain ⟨p, q, hA0, hV, rfl, hfz, hnd⟩ := hW
  have hA : DataW.TrodAll enc Try.prog W 0 (fun _ => true) true Try.f4.params.toList args.toList ds p := hA0
  rw [Try.params4] at hA hval
  obtain ⟨v0, vs0, d0, ds0, p0, q0, hargs, rfl, rfl, h0, r0⟩ := trodAll_cons hA
  obtain ⟨rfl, rfl, rfl⟩ := trodAll_nil r0
  obtain rfl : args = #[v0] := by cases args; simp_all
  obtain ⟨rfl, rfl⟩ := trodVars_none hV
  obtain ⟨A, n, c, rfl, hnc, hby, hmx⟩ := arg_bytes (hval 0 _ v0 rfl rfl) h0 (fun p hp => hlt p (by simp [hp]))
  refine (walk A n c W hby hnc hmx).mono fun e W' hh => ?_
  obtain ⟨rfl, hb⟩ := hh
  exact ⟨_, rfl, law_post laidOut (tys_of (by rw [Try.params4]; kernel_rfl)) hW' rfl rfl rfl Try.underlying4 hb⟩

set_option maxRecDepth 100000 in
theorem lifted (os : Os) (started : os.Started) (H : Type) (enc : TypeId × Value → H) :
    ReturnsInHanded {} Try.checked os 4 .any (Rows.fnReadFullTwiceSpec.pre6 enc Try.prog Try.f4 Rows.fnReadFullTwiceRow.domain false) (Rows.fnReadFullTwiceSpec.post enc Try.prog Try.f4 false true false false) := by
  refine returnsInHanded_of_change (C := Try.checked) own started (by kernel_rfl) Try.func4
    (ChangeSpec.witness6 (C := Try.checked) false ⟨#[], #[.slice none 0 0], []⟩ 8 (by kernel_rfl) (by kernel_rfl) (by kernel_rfl) (by kernel_rfl)) ?_
  intro W base args ds gs before hval hW _ _
  exact contract H enc W base args ds gs before hval hW

theorem holds : Rows.FnReadFullTwiceSaid :=
  OpenClaim.holds_of_wide 4 Try.f4 rfl rfl rfl rfl rfl rfl rfl ⟨rfl, rfl, rfl, rfl, rfl⟩ rfl rfl rfl rfl rfl (by kernel_rfl) Try.func4 (by kernel_rfl)
    (of_decide_eq_true (by kernel_rfl)) (by unfold Func.isWrapper; first | (rw [if_pos (by decide +kernel)]; kernel_rfl) | (rw [if_neg (by decide +kernel)]; exact ⟨rfl, rfl⟩))
    (fun os started H enc _ => lifted os started H enc)
end LawReadFullTwice
end Go.Proofs.Ytmjmplfhedknhaa
