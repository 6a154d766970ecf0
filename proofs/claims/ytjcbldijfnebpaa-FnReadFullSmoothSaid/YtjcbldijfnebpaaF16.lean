/- The law of promise 16: a reading of a smooth device gives all that was asked for and ends well, or all that is ahead, and the end. No conditions. -/
import Derived.Test.YtjcbldijfnebpaaH1
import Derived.Test.YtjcbldijfnebpaaH3
import Derived.Test.YtjcbldijfnebpaaS2g
set_option maxRecDepth 10000
namespace Go.Proofs.Ytjcbldijfnebpaa
open Go.ChangeShapes Go.WideShapes Go.ChangeAt Go.RowKit
set_option linter.unusedSimpArgs false
set_option linter.unusedVariables false
namespace LawReadFullSmooth
theorem fullGo_st {D S : List Int} {z : Int} {N : Nat} : ∀ (f : Nat) (p : Int) (a : Nat) (R out : List Int), ¬ (fullGo D S z N f p a R out).st = 5 := by
  intro f
  induction f with
  | zero => intro p a R out; simp [fullGo]
  | succ f ih =>
    intro p a R out
    simp only [fullGo]
    split
    · simp
    · split
      · exact ih _ _ _ _
      · exact flS_not5 D S R p a
theorem rfull_no {D S R : List Int} {p q z N : Int} (h : (goodR D p S q R z && inB N 0 60) = false) : fullOut D p S q R z N = (⟨[], 0, [], 0, [], 0⟩, [], 5) := by
  unfold fullOut; rw [h]; rfl
theorem rfull_yes {D S R : List Int} {p q z N : Int} (h : (goodR D p S q R z && inB N 0 60) = true) : ∃ (t : Nat) (P Q : Int) (R1 L : List Int) (st : Int),
    fullOut D p S q R z N = (⟨D, P, S, Q, R1, z⟩, L, st) ∧ ¬ st = 5 ∧ tellOut D p S q R z = (t : Int) ∧ R ++ restL D p S q = D.drop t ∧ validR D P S Q R1 z = true ∧ tellOut D P S Q R1 z = (t : Int) + (L.length : Int) ∧ R1 ++ restL D P S Q = (D.drop t).drop L.length ∧ R1.length ≤ 16 ∧ L.isPrefixOf (D.drop t) = true ∧ (L.length : Int) ≤ N ∧
    ((st = 0 ∧ (L.length : Int) = N) ∨ (¬ st = 0 ∧ (L.length : Int) < N)) := by
  have h0 := h
  rw [Bool.and_eq_true] at h
  obtain ⟨hg, hN⟩ := h
  obtain ⟨t, hat, hv, hqq, hq9, hz, hRz, htl, hah⟩ := good_at hg
  have hN2 : 0 ≤ N ∧ N ≤ 60 := by simpa [inB] using hN
  obtain ⟨hvr, _⟩ := goodR_iff.1 hg
  have hk := start_ok hvr
  have hinv := fullGo_inv (N := N.toNat) hz.1 62 p q.toNat R [] hv (by simpa using hk) (by simp; omega)
  have h5 := fullGo_st (D := D) (S := S) (z := z) (N := N.toNat) 62 p q.toNat R []
  obtain ⟨m, h1, h2, h3, h4, h6, h7, h8, _, _⟩ := fullGo_at (N := N.toNat) hz.1 62 p q.toNat R [] t hv (by omega) hat hRz (by simp) (by simp; omega)
  have ho : fullOut D p S q R z N = rsOut D S z (fullGo D S z N.toNat 62 p q.toNat R []) := by unfold fullOut; rw [h0]; rfl
  generalize fullGo D S z N.toNat 62 p q.toNat R [] = o at *
  have hgv : Gave D S z t (t + m) o.p (o.a : Int) o.r := h1.gave hinv.1 hz h4
  have hL : o.out = (D.drop t).take m := by rw [h2]; rfl
  have hm : o.out.length = m := by rw [hL, List.length_take]; omega
  simp only [List.length_nil, Nat.zero_add] at h6 h7 h8
  refine ⟨t, o.p, (o.a : Int), o.r, o.out, o.st, ho, h5, htl, hah, hgv.1, ?_, ?_, hgv.2.2.2, ?_, by omega, ?_⟩
  · rw [hgv.2.1, hm]; omega
  · rw [hgv.2.2.1, hm, List.drop_drop]
  · rw [hL]; exact take_pre _ _
  · by_cases hst : o.st = 0
    · exact .inl ⟨hst, by have := h7 hst; omega⟩
    · exact .inr ⟨hst, by have := h8 hst; omega⟩
theorem rrest_no {D S R : List Int} {p q z : Int} (h : goodR D p S q R z = false) : restOut D p S q R z = (⟨[], 0, [], 0, [], 0⟩, [], 5) := by
  unfold restOut; rw [h]; rfl
theorem rrest_yes {D S R : List Int} {p q z : Int} (hg : goodR D p S q R z = true) : ∃ (t : Nat) (P Q : Int) (R1 L : List Int) (st : Int),
    restOut D p S q R z = (⟨D, P, S, Q, R1, z⟩, L, st) ∧ ¬ st = 5 ∧ ¬ st = 0 ∧ R ++ restL D p S q = D.drop t ∧ R1.length ≤ 16 ∧ L.isPrefixOf (D.drop t) = true ∧
    (st = 1 → R1 ++ restL D P S Q = [] ∧ L = D.drop t) ∧ ((validD D p S q && smoothB S q.toNat) = true → st = 1) := by
  obtain ⟨t, hat, hv, hqq, hq9, hz, hRz, htl, hah⟩ := good_at hg
  obtain ⟨hvr, _⟩ := goodR_iff.1 hg
  have hk := start_ok hvr
  have hinv := fullGo_inv (N := 61) hz.1 62 p q.toNat R [] hv (by simpa using hk) (by simp; omega)
  have h5 := fullGo_st (D := D) (S := S) (z := z) (N := 61) 62 p q.toNat R []
  obtain ⟨m, h1, h2, h3, h4, h6, h7, h8, h9, h10⟩ := fullGo_at (N := 61) hz.1 62 p q.toNat R [] t hv (by omega) hat hRz (by simp) (by simp)
  have ho : restOut D p S q R z = rsOut D S z (fullGo D S z 61 62 p q.toNat R []) := by unfold restOut; rw [hg]; rfl
  generalize fullGo D S z 61 62 p q.toNat R [] = o at *
  have hgv : Gave D S z t (t + m) o.p (o.a : Int) o.r := h1.gave hinv.1 hz h4
  have hL : o.out = (D.drop t).take m := by rw [h2]; rfl
  have hD := bytesB_le (validD_iff.1 hv).1
  have h0 : ¬ o.st = 0 := fun e => by
    have a1 := h7 e
    simp only [List.length_nil] at a1
    rw [List.length_drop] at h3
    omega
  refine ⟨t, o.p, (o.a : Int), o.r, o.out, o.st, ho, h5, h0, hah, hgv.2.2.2, by rw [hL]; exact take_pre _ _, fun e => ?_, fun e => ?_⟩
  · have a1 := h9 e
    exact ⟨by rw [hgv.2.2.1]; exact List.drop_eq_nil_of_le a1, by rw [hL]; exact List.take_of_length_le (by rw [List.length_drop]; omega)⟩
  · rcases h10 (Bool.and_eq_true_iff.1 e).2 with a1 | a1
    · exact absurd a1 h0
    · exact a1
theorem rfull_smooth {D S R : List Int} {p q z N : Int} (h : (goodR D p S q R z && inB N 0 60) = true) : ∃ (t : Nat) (P Q : Int) (R1 L : List Int) (st : Int),
    fullOut D p S q R z N = (⟨D, P, S, Q, R1, z⟩, L, st) ∧ ¬ st = 5 ∧ 0 ≤ N ∧ R ++ restL D p S q = D.drop t ∧ R1.length ≤ 16 ∧
    ((validD D p S q && smoothB S q.toNat) = true → (N ≤ ((D.drop t).length : Int) → st = 0 ∧ L = (D.drop t).take N.toNat) ∧ (¬ N ≤ ((D.drop t).length : Int) → st = 1 ∧ L = D.drop t)) := by
  have h0 := h
  rw [Bool.and_eq_true] at h
  obtain ⟨hg, hN⟩ := h
  obtain ⟨t, hat, hv, hqq, hq9, hz, hRz, htl, hah⟩ := good_at hg
  have hN2 : 0 ≤ N ∧ N ≤ 60 := by simpa [inB] using hN
  obtain ⟨hvr, _⟩ := goodR_iff.1 hg
  have hk := start_ok hvr
  have hinv := fullGo_inv (N := N.toNat) hz.1 62 p q.toNat R [] hv (by simpa using hk) (by simp; omega)
  have h5 := fullGo_st (D := D) (S := S) (z := z) (N := N.toNat) 62 p q.toNat R []
  obtain ⟨m, h1, h2, h3, h4, h6, h7, h8, h9, h10⟩ := fullGo_at (N := N.toNat) hz.1 62 p q.toNat R [] t hv (by omega) hat hRz (by simp) (by simp; omega)
  have ho : fullOut D p S q R z N = rsOut D S z (fullGo D S z N.toNat 62 p q.toNat R []) := by unfold fullOut; rw [h0]; rfl
  generalize fullGo D S z N.toNat 62 p q.toNat R [] = o at *
  have hgv : Gave D S z t (t + m) o.p (o.a : Int) o.r := h1.gave hinv.1 hz h4
  have hL : o.out = (D.drop t).take m := by rw [h2]; rfl
  simp only [List.length_nil, Nat.zero_add] at h6 h7 h8
  have hdl : (D.drop t).length = D.length - t := List.length_drop ..
  refine ⟨t, o.p, (o.a : Int), o.r, o.out, o.st, ho, h5, hN2.1, hah, hgv.2.2.2, fun e => ⟨fun hle => ?_, fun hle => ?_⟩⟩
  · rcases h10 (Bool.and_eq_true_iff.1 e).2 with a1 | a1
    · have a2 := h7 a1
      exact ⟨a1, by rw [hL, a2]⟩
    · have a2 := (h8 (by omega)).1
      have a3 := h9 a1
      omega
  · rcases h10 (Bool.and_eq_true_iff.1 e).2 with a1 | a1
    · have a2 := h7 a1
      omega
    · have a3 := h9 a1
      exact ⟨a1, by rw [hL]; exact List.take_of_length_le (by omega)⟩
set_option maxHeartbeats 8000000 in
theorem walk (A : Option Addr) (n c : Nat) (w : World) (h : BytesIn w w.heap.size A n) (hnc : n ≤ c) (hm : n ≤ 9223372036854775807) :
    Calls Try.prog 3 #[.slice A n c] w (BoolB true w) := by
  have HBY := Lib.hid h
  clear h
  have EB := Lib.hid (Below.refl w.heap.size w)
  by_cases hbig : (1048576 : Int) < (n : Int)
  · go_enter Try.func3, Try.ntmps3
    go_wp2
    go_ret
    exact ⟨rfl, Below.refl _ _⟩
  go_enter Try.func3, Try.ntmps3
  go_wp2_with fail
  refine (DrawReadFull_any HBY.out (by omega) hnc).mono ?_
  rintro e w1 ⟨Ad, nd, cd, Ad', nd', cd', Ed, md, kd, Dd, Sd, Rd, pd, qd, yd, zn, rfl, ⟨⟨hcd, hcd', hkd⟩, ⟨hnd, hnd', hmd⟩, hpd, hqd, hyd, hb, hd, hd', hr⟩, hzn⟩
  (try simp only [World.size_alloc, World.size_setCell, World.size_drew] at hb)
  have HB := Lib.hid hb
  clear hb
  have s1 := HB.out.size
  (try simp only [World.size_alloc, World.size_setCell, World.size_drew] at s1)
  replace EB := Lib.hid (below_step HB.out EB.out (by omega))
  clear HB
  clear HBY
  have d1 := Lib.hid hd
  have d2 := Lib.hid hd'
  have d3 := Lib.hid hr
  clear hd hd' hr
  go_wp2_with fail
  replace d1 := Lib.hid (d1.out.alloc (by omega) (.cells #[.slice Ad nd cd, .int .i64 (pd), .slice Ad' nd' cd', .int .i64 (qd), .slice Ed md kd, .int .i64 (yd)] 27))
  replace d2 := Lib.hid (d2.out.alloc (by omega) (.cells #[.slice Ad nd cd, .int .i64 (pd), .slice Ad' nd' cd', .int .i64 (qd), .slice Ed md kd, .int .i64 (yd)] 27))
  replace d3 := Lib.hid (d3.out.alloc (by omega) (.cells #[.slice Ad nd cd, .int .i64 (pd), .slice Ad' nd' cd', .int .i64 (qd), .slice Ed md kd, .int .i64 (yd)] 27))
  replace EB := Lib.hid (EB.out.alloc (by omega) (.cells #[.slice Ad nd cd, .int .i64 (pd), .slice Ad' nd' cd', .int .i64 (qd), .slice Ed md kd, .int .i64 (yd)] 27))
  have Bd := Lib.hid (Box.new w1 27 [.slice Ad nd cd, .int .i64 (pd), .slice Ad' nd' cd', .int .i64 (qd), .slice Ed md kd, .int .i64 (yd)])
  have s2 : w1.heap.size + 1 ≤ (w1.alloc (.cells #[.slice Ad nd cd, .int .i64 (pd), .slice Ad' nd' cd', .int .i64 (qd), .slice Ed md kd, .int .i64 (yd)] 27)).heap.size := by simp
  generalize w1.alloc (.cells #[.slice Ad nd cd, .int .i64 (pd), .slice Ad' nd' cd', .int .i64 (qd), .slice Ed md kd, .int .i64 (yd)] 27) = w2 at *
  cases hg : (goodR Dd pd Sd qd Rd yd && inB zn 0 60)
  · refine (to_rli (ReadFull_x d1.out d2.out d3.out (by omega) (by omega) (by omega) hcd hcd' hkd (by omega) (by omega) (by omega) (by unfold okInt; omega)) (rfull_no hg)).mono ?_
    rintro e w3 ⟨Ax, nx, cx, Ax', nx', cx', Ex, mx, kx, Al, nl, cl, rfl, ⟨hcx, hcx', hkx, hcl⟩, hb, hd, hd', hr, hl⟩
    (try simp only [World.size_alloc, World.size_setCell, World.size_drew] at hb)
    have HB := Lib.hid hb
    clear hb
    have s3 := HB.out.size
    (try simp only [World.size_alloc, World.size_setCell, World.size_drew] at s3)
    replace d1 := Lib.hid (d1.out.below HB.out (by omega))
    replace d2 := Lib.hid (d2.out.below HB.out (by omega))
    replace d3 := Lib.hid (d3.out.below HB.out (by omega))
    replace Bd := Lib.hid (Bd.out.below HB.out (by omega))
    replace EB := Lib.hid (below_step HB.out EB.out (by omega))
    clear HB
    have l1 := Lib.hid hl
    have x1 := Lib.hid hd
    have x2 := Lib.hid hd'
    have x3 := Lib.hid hr
    clear hd hd' hr hl
    have vdl := Bd.out.lt
    have vd0 := (Bd.out.2 0 _ rfl).1
    have vd1 := (Bd.out.2 1 _ rfl).1
    have vd2 := (Bd.out.2 2 _ rfl).1
    have vd3 := (Bd.out.2 3 _ rfl).1
    have vd4 := (Bd.out.2 4 _ rfl).1
    have vd5 := (Bd.out.2 5 _ rfl).1
    go_wp2_with fail
    clear vdl vd0 vd1 vd2 vd3 vd4 vd5
    replace d1 := Lib.hid (d1.out.alloc (by omega) (.cells #[.slice Ax nx cx, .int .i64 (0), .slice Ax' nx' cx', .int .i64 (0), .slice Ex mx kx, .int .i64 (0)] 27))
    replace d2 := Lib.hid (d2.out.alloc (by omega) (.cells #[.slice Ax nx cx, .int .i64 (0), .slice Ax' nx' cx', .int .i64 (0), .slice Ex mx kx, .int .i64 (0)] 27))
    replace d3 := Lib.hid (d3.out.alloc (by omega) (.cells #[.slice Ax nx cx, .int .i64 (0), .slice Ax' nx' cx', .int .i64 (0), .slice Ex mx kx, .int .i64 (0)] 27))
    replace Bd := Lib.hid (Bd.out.alloc (.cells #[.slice Ax nx cx, .int .i64 (0), .slice Ax' nx' cx', .int .i64 (0), .slice Ex mx kx, .int .i64 (0)] 27))
    replace l1 := Lib.hid (l1.out.alloc (by omega) (.cells #[.slice Ax nx cx, .int .i64 (0), .slice Ax' nx' cx', .int .i64 (0), .slice Ex mx kx, .int .i64 (0)] 27))
    replace x1 := Lib.hid (x1.out.alloc (by omega) (.cells #[.slice Ax nx cx, .int .i64 (0), .slice Ax' nx' cx', .int .i64 (0), .slice Ex mx kx, .int .i64 (0)] 27))
    replace x2 := Lib.hid (x2.out.alloc (by omega) (.cells #[.slice Ax nx cx, .int .i64 (0), .slice Ax' nx' cx', .int .i64 (0), .slice Ex mx kx, .int .i64 (0)] 27))
    replace x3 := Lib.hid (x3.out.alloc (by omega) (.cells #[.slice Ax nx cx, .int .i64 (0), .slice Ax' nx' cx', .int .i64 (0), .slice Ex mx kx, .int .i64 (0)] 27))
    replace EB := Lib.hid (EB.out.alloc (by omega) (.cells #[.slice Ax nx cx, .int .i64 (0), .slice Ax' nx' cx', .int .i64 (0), .slice Ex mx kx, .int .i64 (0)] 27))
    have Bx := Lib.hid (Box.new w3 27 [.slice Ax nx cx, .int .i64 (0), .slice Ax' nx' cx', .int .i64 (0), .slice Ex mx kx, .int .i64 (0)])
    have s4 : w3.heap.size + 1 ≤ (w3.alloc (.cells #[.slice Ax nx cx, .int .i64 (0), .slice Ax' nx' cx', .int .i64 (0), .slice Ex mx kx, .int .i64 (0)] 27)).heap.size := by simp
    generalize w3.alloc (.cells #[.slice Ax nx cx, .int .i64 (0), .slice Ax' nx' cx', .int .i64 (0), .slice Ex mx kx, .int .i64 (0)] 27) = w4 at *
    refine (to_rli (SReadFull_x d1.out d2.out d3.out (by omega) (by omega) (by omega) hcd hcd' hkd (by omega) (by omega) (by omega) (by unfold okInt; omega)) (rfull_no hg)).mono ?_
    rintro e w5 ⟨Ay, ny, cy, Ay', ny', cy', Ey, my, ky, Am, nm, cm, rfl, ⟨hcy, hcy', hky, hcm⟩, hb, hd, hd', hr, hl⟩
    (try simp only [World.size_alloc, World.size_setCell, World.size_drew] at hb)
    have HB := Lib.hid hb
    clear hb
    have s5 := HB.out.size
    (try simp only [World.size_alloc, World.size_setCell, World.size_drew] at s5)
    replace d1 := Lib.hid (d1.out.below HB.out (by omega))
    replace d2 := Lib.hid (d2.out.below HB.out (by omega))
    replace d3 := Lib.hid (d3.out.below HB.out (by omega))
    replace Bd := Lib.hid (Bd.out.below HB.out (by omega))
    replace l1 := Lib.hid (l1.out.below HB.out (by omega))
    replace x1 := Lib.hid (x1.out.below HB.out (by omega))
    replace x2 := Lib.hid (x2.out.below HB.out (by omega))
    replace x3 := Lib.hid (x3.out.below HB.out (by omega))
    replace Bx := Lib.hid (Bx.out.below HB.out (by omega))
    replace EB := Lib.hid (below_step HB.out EB.out (by omega))
    clear HB
    have m1 := Lib.hid hl
    have y1 := Lib.hid hd
    have y2 := Lib.hid hd'
    have y3 := Lib.hid hr
    clear hd hd' hr hl
    have vxl := Bx.out.lt
    have vx0 := (Bx.out.2 0 _ rfl).1
    have vx1 := (Bx.out.2 1 _ rfl).1
    have vx2 := (Bx.out.2 2 _ rfl).1
    have vx3 := (Bx.out.2 3 _ rfl).1
    have vx4 := (Bx.out.2 4 _ rfl).1
    have vx5 := (Bx.out.2 5 _ rfl).1
    go_wp2_with fail
    clear vxl vx0 vx1 vx2 vx3 vx4 vx5
    replace d1 := Lib.hid (d1.out.alloc (by omega) (.cells #[.slice Ay ny cy, .int .i64 (0), .slice Ay' ny' cy', .int .i64 (0), .slice Ey my ky, .int .i64 (0)] 27))
    replace d2 := Lib.hid (d2.out.alloc (by omega) (.cells #[.slice Ay ny cy, .int .i64 (0), .slice Ay' ny' cy', .int .i64 (0), .slice Ey my ky, .int .i64 (0)] 27))
    replace d3 := Lib.hid (d3.out.alloc (by omega) (.cells #[.slice Ay ny cy, .int .i64 (0), .slice Ay' ny' cy', .int .i64 (0), .slice Ey my ky, .int .i64 (0)] 27))
    replace Bd := Lib.hid (Bd.out.alloc (.cells #[.slice Ay ny cy, .int .i64 (0), .slice Ay' ny' cy', .int .i64 (0), .slice Ey my ky, .int .i64 (0)] 27))
    replace l1 := Lib.hid (l1.out.alloc (by omega) (.cells #[.slice Ay ny cy, .int .i64 (0), .slice Ay' ny' cy', .int .i64 (0), .slice Ey my ky, .int .i64 (0)] 27))
    replace x1 := Lib.hid (x1.out.alloc (by omega) (.cells #[.slice Ay ny cy, .int .i64 (0), .slice Ay' ny' cy', .int .i64 (0), .slice Ey my ky, .int .i64 (0)] 27))
    replace x2 := Lib.hid (x2.out.alloc (by omega) (.cells #[.slice Ay ny cy, .int .i64 (0), .slice Ay' ny' cy', .int .i64 (0), .slice Ey my ky, .int .i64 (0)] 27))
    replace x3 := Lib.hid (x3.out.alloc (by omega) (.cells #[.slice Ay ny cy, .int .i64 (0), .slice Ay' ny' cy', .int .i64 (0), .slice Ey my ky, .int .i64 (0)] 27))
    replace Bx := Lib.hid (Bx.out.alloc (.cells #[.slice Ay ny cy, .int .i64 (0), .slice Ay' ny' cy', .int .i64 (0), .slice Ey my ky, .int .i64 (0)] 27))
    replace m1 := Lib.hid (m1.out.alloc (by omega) (.cells #[.slice Ay ny cy, .int .i64 (0), .slice Ay' ny' cy', .int .i64 (0), .slice Ey my ky, .int .i64 (0)] 27))
    replace y1 := Lib.hid (y1.out.alloc (by omega) (.cells #[.slice Ay ny cy, .int .i64 (0), .slice Ay' ny' cy', .int .i64 (0), .slice Ey my ky, .int .i64 (0)] 27))
    replace y2 := Lib.hid (y2.out.alloc (by omega) (.cells #[.slice Ay ny cy, .int .i64 (0), .slice Ay' ny' cy', .int .i64 (0), .slice Ey my ky, .int .i64 (0)] 27))
    replace y3 := Lib.hid (y3.out.alloc (by omega) (.cells #[.slice Ay ny cy, .int .i64 (0), .slice Ay' ny' cy', .int .i64 (0), .slice Ey my ky, .int .i64 (0)] 27))
    replace EB := Lib.hid (EB.out.alloc (by omega) (.cells #[.slice Ay ny cy, .int .i64 (0), .slice Ay' ny' cy', .int .i64 (0), .slice Ey my ky, .int .i64 (0)] 27))
    have By := Lib.hid (Box.new w5 27 [.slice Ay ny cy, .int .i64 (0), .slice Ay' ny' cy', .int .i64 (0), .slice Ey my ky, .int .i64 (0)])
    have s6 : w5.heap.size + 1 ≤ (w5.alloc (.cells #[.slice Ay ny cy, .int .i64 (0), .slice Ay' ny' cy', .int .i64 (0), .slice Ey my ky, .int .i64 (0)] 27)).heap.size := by simp
    generalize w5.alloc (.cells #[.slice Ay ny cy, .int .i64 (0), .slice Ay' ny' cy', .int .i64 (0), .slice Ey my ky, .int .i64 (0)] 27) = w6 at *
    refine (equalReader_same x1.out x2.out x3.out y1.out y2.out y3.out (by omega) (by omega) (by omega) (by omega) (by omega) (by omega)).mono ?_
    rintro e w7 ⟨rfl, hb⟩
    (try simp only [World.size_alloc, World.size_setCell, World.size_drew] at hb)
    have HB := Lib.hid hb
    clear hb
    have s7 := HB.out.size
    (try simp only [World.size_alloc, World.size_setCell, World.size_drew] at s7)
    replace d1 := Lib.hid (d1.out.below HB.out (by omega))
    replace d2 := Lib.hid (d2.out.below HB.out (by omega))
    replace d3 := Lib.hid (d3.out.below HB.out (by omega))
    replace Bd := Lib.hid (Bd.out.below HB.out (by omega))
    replace l1 := Lib.hid (l1.out.below HB.out (by omega))
    replace x1 := Lib.hid (x1.out.below HB.out (by omega))
    replace x2 := Lib.hid (x2.out.below HB.out (by omega))
    replace x3 := Lib.hid (x3.out.below HB.out (by omega))
    replace Bx := Lib.hid (Bx.out.below HB.out (by omega))
    replace m1 := Lib.hid (m1.out.below HB.out (by omega))
    replace y1 := Lib.hid (y1.out.below HB.out (by omega))
    replace y2 := Lib.hid (y2.out.below HB.out (by omega))
    replace y3 := Lib.hid (y3.out.below HB.out (by omega))
    replace By := Lib.hid (By.out.below HB.out (by omega))
    replace EB := Lib.hid (below_step HB.out EB.out (by omega))
    clear HB
    go_wp2_with fail
    refine (equalInts_same l1.out m1.out rfl).mono ?_
    rintro e w8 ⟨rfl, hb⟩
    (try simp only [World.size_alloc, World.size_setCell, World.size_drew] at hb)
    have HB := Lib.hid hb
    clear hb
    have s8 := HB.out.size
    (try simp only [World.size_alloc, World.size_setCell, World.size_drew] at s8)
    replace d1 := Lib.hid (d1.out.below HB.out (by omega))
    replace d2 := Lib.hid (d2.out.below HB.out (by omega))
    replace d3 := Lib.hid (d3.out.below HB.out (by omega))
    replace Bd := Lib.hid (Bd.out.below HB.out (by omega))
    replace l1 := Lib.hid (l1.out.below HB.out (by omega))
    replace x1 := Lib.hid (x1.out.below HB.out (by omega))
    replace x2 := Lib.hid (x2.out.below HB.out (by omega))
    replace x3 := Lib.hid (x3.out.below HB.out (by omega))
    replace Bx := Lib.hid (Bx.out.below HB.out (by omega))
    replace m1 := Lib.hid (m1.out.below HB.out (by omega))
    replace y1 := Lib.hid (y1.out.below HB.out (by omega))
    replace y2 := Lib.hid (y2.out.below HB.out (by omega))
    replace y3 := Lib.hid (y3.out.below HB.out (by omega))
    replace By := Lib.hid (By.out.below HB.out (by omega))
    replace EB := Lib.hid (below_step HB.out EB.out (by omega))
    clear HB
    have vxl := Bx.out.lt
    have vx0 := (Bx.out.2 0 _ rfl).1
    have vx1 := (Bx.out.2 1 _ rfl).1
    have vx2 := (Bx.out.2 2 _ rfl).1
    have vx3 := (Bx.out.2 3 _ rfl).1
    have vx4 := (Bx.out.2 4 _ rfl).1
    have vx5 := (Bx.out.2 5 _ rfl).1
    have vyl := By.out.lt
    have vy0 := (By.out.2 0 _ rfl).1
    have vy1 := (By.out.2 1 _ rfl).1
    have vy2 := (By.out.2 2 _ rfl).1
    have vy3 := (By.out.2 3 _ rfl).1
    have vy4 := (By.out.2 4 _ rfl).1
    have vy5 := (By.out.2 5 _ rfl).1
    go_wp2_with fail
    refine (equalReader_same x1.out x2.out x3.out y1.out y2.out y3.out (by omega) (by omega) (by omega) (by omega) (by omega) (by omega)).mono ?_
    clear vxl vx0 vx1 vx2 vx3 vx4 vx5 vyl vy0 vy1 vy2 vy3 vy4 vy5
    rintro e w9 ⟨rfl, hb⟩
    (try simp only [World.size_alloc, World.size_setCell, World.size_drew] at hb)
    have HB := Lib.hid hb
    clear hb
    have s9 := HB.out.size
    (try simp only [World.size_alloc, World.size_setCell, World.size_drew] at s9)
    replace d1 := Lib.hid (d1.out.below HB.out (by omega))
    replace d2 := Lib.hid (d2.out.below HB.out (by omega))
    replace d3 := Lib.hid (d3.out.below HB.out (by omega))
    replace Bd := Lib.hid (Bd.out.below HB.out (by omega))
    replace l1 := Lib.hid (l1.out.below HB.out (by omega))
    replace x1 := Lib.hid (x1.out.below HB.out (by omega))
    replace x2 := Lib.hid (x2.out.below HB.out (by omega))
    replace x3 := Lib.hid (x3.out.below HB.out (by omega))
    replace Bx := Lib.hid (Bx.out.below HB.out (by omega))
    replace m1 := Lib.hid (m1.out.below HB.out (by omega))
    replace y1 := Lib.hid (y1.out.below HB.out (by omega))
    replace y2 := Lib.hid (y2.out.below HB.out (by omega))
    replace y3 := Lib.hid (y3.out.below HB.out (by omega))
    replace By := Lib.hid (By.out.below HB.out (by omega))
    replace EB := Lib.hid (below_step HB.out EB.out (by omega))
    clear HB
    go_wp2_with fail
    refine (equalInts_same l1.out m1.out rfl).mono ?_
    rintro e w10 ⟨rfl, hb⟩
    (try simp only [World.size_alloc, World.size_setCell, World.size_drew] at hb)
    have HB := Lib.hid hb
    clear hb
    have s10 := HB.out.size
    (try simp only [World.size_alloc, World.size_setCell, World.size_drew] at s10)
    replace d1 := Lib.hid (d1.out.below HB.out (by omega))
    replace d2 := Lib.hid (d2.out.below HB.out (by omega))
    replace d3 := Lib.hid (d3.out.below HB.out (by omega))
    replace Bd := Lib.hid (Bd.out.below HB.out (by omega))
    replace l1 := Lib.hid (l1.out.below HB.out (by omega))
    replace x1 := Lib.hid (x1.out.below HB.out (by omega))
    replace x2 := Lib.hid (x2.out.below HB.out (by omega))
    replace x3 := Lib.hid (x3.out.below HB.out (by omega))
    replace Bx := Lib.hid (Bx.out.below HB.out (by omega))
    replace m1 := Lib.hid (m1.out.below HB.out (by omega))
    replace y1 := Lib.hid (y1.out.below HB.out (by omega))
    replace y2 := Lib.hid (y2.out.below HB.out (by omega))
    replace y3 := Lib.hid (y3.out.below HB.out (by omega))
    replace By := Lib.hid (By.out.below HB.out (by omega))
    replace EB := Lib.hid (below_step HB.out EB.out (by omega))
    clear HB
    go_wp2
    go_ret
    exact ⟨rfl, EB.out⟩
  · obtain ⟨t, P, Q, R1, L, st, ho, hs5, hn0, had, hr1, hsm⟩ := rfull_smooth hg
    clear hg
    have HO := Lib.hid ho
    have AD := Lib.hid had
    have R1L := Lib.hid hr1
    have HSM := Lib.hid hsm
    clear ho had hr1 hsm
    cases hsm : (validD Dd pd Sd qd && smoothB Sd qd.toNat)
    · have SM := Lib.hid hsm
      clear hsm
      refine (to_rli (ReadFull_x d1.out d2.out d3.out (by omega) (by omega) (by omega) hcd hcd' hkd (by omega) (by omega) (by omega) (by unfold okInt; omega)) HO.out).mono ?_
      rintro e w3 ⟨Ax, nx, cx, Ax', nx', cx', Ex, mx, kx, Al, nl, cl, rfl, ⟨hcx, hcx', hkx, hcl⟩, hb, hd, hd', hr, hl⟩
      (try simp only [World.size_alloc, World.size_setCell, World.size_drew] at hb)
      have HB := Lib.hid hb
      clear hb
      have s3 := HB.out.size
      (try simp only [World.size_alloc, World.size_setCell, World.size_drew] at s3)
      replace d1 := Lib.hid (d1.out.below HB.out (by omega))
      replace d2 := Lib.hid (d2.out.below HB.out (by omega))
      replace d3 := Lib.hid (d3.out.below HB.out (by omega))
      replace Bd := Lib.hid (Bd.out.below HB.out (by omega))
      replace EB := Lib.hid (below_step HB.out EB.out (by omega))
      clear HB
      have l1 := Lib.hid hl
      have x1 := Lib.hid hd
      have x2 := Lib.hid hd'
      have x3 := Lib.hid hr
      clear hd hd' hr hl
      have vdl := Bd.out.lt
      have vd0 := (Bd.out.2 0 _ rfl).1
      have vd1 := (Bd.out.2 1 _ rfl).1
      have vd2 := (Bd.out.2 2 _ rfl).1
      have vd3 := (Bd.out.2 3 _ rfl).1
      have vd4 := (Bd.out.2 4 _ rfl).1
      have vd5 := (Bd.out.2 5 _ rfl).1
      go_wp2_with fail
      clear vdl vd0 vd1 vd2 vd3 vd4 vd5
      replace d1 := Lib.hid (d1.out.alloc (by omega) (.cells #[.slice Ax nx cx, .int .i64 (P), .slice Ax' nx' cx', .int .i64 (Q), .slice Ex mx kx, .int .i64 (yd)] 27))
      replace d2 := Lib.hid (d2.out.alloc (by omega) (.cells #[.slice Ax nx cx, .int .i64 (P), .slice Ax' nx' cx', .int .i64 (Q), .slice Ex mx kx, .int .i64 (yd)] 27))
      replace d3 := Lib.hid (d3.out.alloc (by omega) (.cells #[.slice Ax nx cx, .int .i64 (P), .slice Ax' nx' cx', .int .i64 (Q), .slice Ex mx kx, .int .i64 (yd)] 27))
      replace Bd := Lib.hid (Bd.out.alloc (.cells #[.slice Ax nx cx, .int .i64 (P), .slice Ax' nx' cx', .int .i64 (Q), .slice Ex mx kx, .int .i64 (yd)] 27))
      replace l1 := Lib.hid (l1.out.alloc (by omega) (.cells #[.slice Ax nx cx, .int .i64 (P), .slice Ax' nx' cx', .int .i64 (Q), .slice Ex mx kx, .int .i64 (yd)] 27))
      replace x1 := Lib.hid (x1.out.alloc (by omega) (.cells #[.slice Ax nx cx, .int .i64 (P), .slice Ax' nx' cx', .int .i64 (Q), .slice Ex mx kx, .int .i64 (yd)] 27))
      replace x2 := Lib.hid (x2.out.alloc (by omega) (.cells #[.slice Ax nx cx, .int .i64 (P), .slice Ax' nx' cx', .int .i64 (Q), .slice Ex mx kx, .int .i64 (yd)] 27))
      replace x3 := Lib.hid (x3.out.alloc (by omega) (.cells #[.slice Ax nx cx, .int .i64 (P), .slice Ax' nx' cx', .int .i64 (Q), .slice Ex mx kx, .int .i64 (yd)] 27))
      replace EB := Lib.hid (EB.out.alloc (by omega) (.cells #[.slice Ax nx cx, .int .i64 (P), .slice Ax' nx' cx', .int .i64 (Q), .slice Ex mx kx, .int .i64 (yd)] 27))
      have Bx := Lib.hid (Box.new w3 27 [.slice Ax nx cx, .int .i64 (P), .slice Ax' nx' cx', .int .i64 (Q), .slice Ex mx kx, .int .i64 (yd)])
      have s4 : w3.heap.size + 1 ≤ (w3.alloc (.cells #[.slice Ax nx cx, .int .i64 (P), .slice Ax' nx' cx', .int .i64 (Q), .slice Ex mx kx, .int .i64 (yd)] 27)).heap.size := by simp
      generalize w3.alloc (.cells #[.slice Ax nx cx, .int .i64 (P), .slice Ax' nx' cx', .int .i64 (Q), .slice Ex mx kx, .int .i64 (yd)] 27) = w4 at *
      refine (to_rli (SReadFull_x d1.out d2.out d3.out (by omega) (by omega) (by omega) hcd hcd' hkd (by omega) (by omega) (by omega) (by unfold okInt; omega)) HO.out).mono ?_
      rintro e w5 ⟨Ay, ny, cy, Ay', ny', cy', Ey, my, ky, Am, nm, cm, rfl, ⟨hcy, hcy', hky, hcm⟩, hb, hd, hd', hr, hl⟩
      (try simp only [World.size_alloc, World.size_setCell, World.size_drew] at hb)
      have HB := Lib.hid hb
      clear hb
      have s5 := HB.out.size
      (try simp only [World.size_alloc, World.size_setCell, World.size_drew] at s5)
      replace d1 := Lib.hid (d1.out.below HB.out (by omega))
      replace d2 := Lib.hid (d2.out.below HB.out (by omega))
      replace d3 := Lib.hid (d3.out.below HB.out (by omega))
      replace Bd := Lib.hid (Bd.out.below HB.out (by omega))
      replace l1 := Lib.hid (l1.out.below HB.out (by omega))
      replace x1 := Lib.hid (x1.out.below HB.out (by omega))
      replace x2 := Lib.hid (x2.out.below HB.out (by omega))
      replace x3 := Lib.hid (x3.out.below HB.out (by omega))
      replace Bx := Lib.hid (Bx.out.below HB.out (by omega))
      replace EB := Lib.hid (below_step HB.out EB.out (by omega))
      clear HB
      have m1 := Lib.hid hl
      have y1 := Lib.hid hd
      have y2 := Lib.hid hd'
      have y3 := Lib.hid hr
      clear hd hd' hr hl
      have vxl := Bx.out.lt
      have vx0 := (Bx.out.2 0 _ rfl).1
      have vx1 := (Bx.out.2 1 _ rfl).1
      have vx2 := (Bx.out.2 2 _ rfl).1
      have vx3 := (Bx.out.2 3 _ rfl).1
      have vx4 := (Bx.out.2 4 _ rfl).1
      have vx5 := (Bx.out.2 5 _ rfl).1
      go_wp2_with fail
      clear vxl vx0 vx1 vx2 vx3 vx4 vx5
      replace d1 := Lib.hid (d1.out.alloc (by omega) (.cells #[.slice Ay ny cy, .int .i64 (P), .slice Ay' ny' cy', .int .i64 (Q), .slice Ey my ky, .int .i64 (yd)] 27))
      replace d2 := Lib.hid (d2.out.alloc (by omega) (.cells #[.slice Ay ny cy, .int .i64 (P), .slice Ay' ny' cy', .int .i64 (Q), .slice Ey my ky, .int .i64 (yd)] 27))
      replace d3 := Lib.hid (d3.out.alloc (by omega) (.cells #[.slice Ay ny cy, .int .i64 (P), .slice Ay' ny' cy', .int .i64 (Q), .slice Ey my ky, .int .i64 (yd)] 27))
      replace Bd := Lib.hid (Bd.out.alloc (.cells #[.slice Ay ny cy, .int .i64 (P), .slice Ay' ny' cy', .int .i64 (Q), .slice Ey my ky, .int .i64 (yd)] 27))
      replace l1 := Lib.hid (l1.out.alloc (by omega) (.cells #[.slice Ay ny cy, .int .i64 (P), .slice Ay' ny' cy', .int .i64 (Q), .slice Ey my ky, .int .i64 (yd)] 27))
      replace x1 := Lib.hid (x1.out.alloc (by omega) (.cells #[.slice Ay ny cy, .int .i64 (P), .slice Ay' ny' cy', .int .i64 (Q), .slice Ey my ky, .int .i64 (yd)] 27))
      replace x2 := Lib.hid (x2.out.alloc (by omega) (.cells #[.slice Ay ny cy, .int .i64 (P), .slice Ay' ny' cy', .int .i64 (Q), .slice Ey my ky, .int .i64 (yd)] 27))
      replace x3 := Lib.hid (x3.out.alloc (by omega) (.cells #[.slice Ay ny cy, .int .i64 (P), .slice Ay' ny' cy', .int .i64 (Q), .slice Ey my ky, .int .i64 (yd)] 27))
      replace Bx := Lib.hid (Bx.out.alloc (.cells #[.slice Ay ny cy, .int .i64 (P), .slice Ay' ny' cy', .int .i64 (Q), .slice Ey my ky, .int .i64 (yd)] 27))
      replace m1 := Lib.hid (m1.out.alloc (by omega) (.cells #[.slice Ay ny cy, .int .i64 (P), .slice Ay' ny' cy', .int .i64 (Q), .slice Ey my ky, .int .i64 (yd)] 27))
      replace y1 := Lib.hid (y1.out.alloc (by omega) (.cells #[.slice Ay ny cy, .int .i64 (P), .slice Ay' ny' cy', .int .i64 (Q), .slice Ey my ky, .int .i64 (yd)] 27))
      replace y2 := Lib.hid (y2.out.alloc (by omega) (.cells #[.slice Ay ny cy, .int .i64 (P), .slice Ay' ny' cy', .int .i64 (Q), .slice Ey my ky, .int .i64 (yd)] 27))
      replace y3 := Lib.hid (y3.out.alloc (by omega) (.cells #[.slice Ay ny cy, .int .i64 (P), .slice Ay' ny' cy', .int .i64 (Q), .slice Ey my ky, .int .i64 (yd)] 27))
      replace EB := Lib.hid (EB.out.alloc (by omega) (.cells #[.slice Ay ny cy, .int .i64 (P), .slice Ay' ny' cy', .int .i64 (Q), .slice Ey my ky, .int .i64 (yd)] 27))
      have By := Lib.hid (Box.new w5 27 [.slice Ay ny cy, .int .i64 (P), .slice Ay' ny' cy', .int .i64 (Q), .slice Ey my ky, .int .i64 (yd)])
      have s6 : w5.heap.size + 1 ≤ (w5.alloc (.cells #[.slice Ay ny cy, .int .i64 (P), .slice Ay' ny' cy', .int .i64 (Q), .slice Ey my ky, .int .i64 (yd)] 27)).heap.size := by simp
      generalize w5.alloc (.cells #[.slice Ay ny cy, .int .i64 (P), .slice Ay' ny' cy', .int .i64 (Q), .slice Ey my ky, .int .i64 (yd)] 27) = w6 at *
      refine (equalReader_same x1.out x2.out x3.out y1.out y2.out y3.out (by omega) (by omega) (by omega) (by omega) (by omega) (by omega)).mono ?_
      rintro e w7 ⟨rfl, hb⟩
      (try simp only [World.size_alloc, World.size_setCell, World.size_drew] at hb)
      have HB := Lib.hid hb
      clear hb
      have s7 := HB.out.size
      (try simp only [World.size_alloc, World.size_setCell, World.size_drew] at s7)
      replace d1 := Lib.hid (d1.out.below HB.out (by omega))
      replace d2 := Lib.hid (d2.out.below HB.out (by omega))
      replace d3 := Lib.hid (d3.out.below HB.out (by omega))
      replace Bd := Lib.hid (Bd.out.below HB.out (by omega))
      replace l1 := Lib.hid (l1.out.below HB.out (by omega))
      replace x1 := Lib.hid (x1.out.below HB.out (by omega))
      replace x2 := Lib.hid (x2.out.below HB.out (by omega))
      replace x3 := Lib.hid (x3.out.below HB.out (by omega))
      replace Bx := Lib.hid (Bx.out.below HB.out (by omega))
      replace m1 := Lib.hid (m1.out.below HB.out (by omega))
      replace y1 := Lib.hid (y1.out.below HB.out (by omega))
      replace y2 := Lib.hid (y2.out.below HB.out (by omega))
      replace y3 := Lib.hid (y3.out.below HB.out (by omega))
      replace By := Lib.hid (By.out.below HB.out (by omega))
      replace EB := Lib.hid (below_step HB.out EB.out (by omega))
      clear HB
      go_wp2_with fail
      refine (equalInts_same l1.out m1.out rfl).mono ?_
      rintro e w8 ⟨rfl, hb⟩
      (try simp only [World.size_alloc, World.size_setCell, World.size_drew] at hb)
      have HB := Lib.hid hb
      clear hb
      have s8 := HB.out.size
      (try simp only [World.size_alloc, World.size_setCell, World.size_drew] at s8)
      replace d1 := Lib.hid (d1.out.below HB.out (by omega))
      replace d2 := Lib.hid (d2.out.below HB.out (by omega))
      replace d3 := Lib.hid (d3.out.below HB.out (by omega))
      replace Bd := Lib.hid (Bd.out.below HB.out (by omega))
      replace l1 := Lib.hid (l1.out.below HB.out (by omega))
      replace x1 := Lib.hid (x1.out.below HB.out (by omega))
      replace x2 := Lib.hid (x2.out.below HB.out (by omega))
      replace x3 := Lib.hid (x3.out.below HB.out (by omega))
      replace Bx := Lib.hid (Bx.out.below HB.out (by omega))
      replace m1 := Lib.hid (m1.out.below HB.out (by omega))
      replace y1 := Lib.hid (y1.out.below HB.out (by omega))
      replace y2 := Lib.hid (y2.out.below HB.out (by omega))
      replace y3 := Lib.hid (y3.out.below HB.out (by omega))
      replace By := Lib.hid (By.out.below HB.out (by omega))
      replace EB := Lib.hid (below_step HB.out EB.out (by omega))
      clear HB
      have vdl := Bd.out.lt
      have vd0 := (Bd.out.2 0 _ rfl).1
      have vd1 := (Bd.out.2 1 _ rfl).1
      have vd2 := (Bd.out.2 2 _ rfl).1
      have vd3 := (Bd.out.2 3 _ rfl).1
      have vd4 := (Bd.out.2 4 _ rfl).1
      have vd5 := (Bd.out.2 5 _ rfl).1
      go_wp2_with fail
      refine (to_boolN (IsSmooth_any d1.out d2.out (by omega) (by omega)) SM.out).mono ?_
      clear vdl vd0 vd1 vd2 vd3 vd4 vd5
      rintro e w9 ⟨rfl, hb⟩
      (try simp only [World.size_alloc, World.size_setCell, World.size_drew] at hb)
      have HB := Lib.hid hb
      clear hb
      have s9 := HB.out.size
      (try simp only [World.size_alloc, World.size_setCell, World.size_drew] at s9)
      replace d1 := Lib.hid (d1.out.below HB.out (by omega))
      replace d2 := Lib.hid (d2.out.below HB.out (by omega))
      replace d3 := Lib.hid (d3.out.below HB.out (by omega))
      replace Bd := Lib.hid (Bd.out.below HB.out (by omega))
      replace l1 := Lib.hid (l1.out.below HB.out (by omega))
      replace x1 := Lib.hid (x1.out.below HB.out (by omega))
      replace x2 := Lib.hid (x2.out.below HB.out (by omega))
      replace x3 := Lib.hid (x3.out.below HB.out (by omega))
      replace Bx := Lib.hid (Bx.out.below HB.out (by omega))
      replace m1 := Lib.hid (m1.out.below HB.out (by omega))
      replace y1 := Lib.hid (y1.out.below HB.out (by omega))
      replace y2 := Lib.hid (y2.out.below HB.out (by omega))
      replace y3 := Lib.hid (y3.out.below HB.out (by omega))
      replace By := Lib.hid (By.out.below HB.out (by omega))
      replace EB := Lib.hid (below_step HB.out EB.out (by omega))
      clear HB
      go_wp2
      go_ret
      exact ⟨rfl, EB.out⟩
    · have SM := Lib.hid hsm
      obtain ⟨hyes, hno⟩ := HSM.out hsm
      clear hsm
      obtain ⟨N, rfl⟩ := Int.eq_ofNat_of_zero_le hn0
      by_cases hN : (N : Int) ≤ ((Dd.drop t).length : Int)
      · obtain ⟨hst, hL⟩ := hyes hN
        subst hst
        try rw [Int.toNat_natCast] at hL
        have EQL := Lib.hid hL
        have HNL := Lib.hid hN
        clear hL hN hyes hno hs5
        refine (to_rli (ReadFull_x d1.out d2.out d3.out (by omega) (by omega) (by omega) hcd hcd' hkd (by omega) (by omega) (by omega) (by unfold okInt; omega)) HO.out).mono ?_
        rintro e w3 ⟨Ax, nx, cx, Ax', nx', cx', Ex, mx, kx, Al, nl, cl, rfl, ⟨hcx, hcx', hkx, hcl⟩, hb, hd, hd', hr, hl⟩
        (try simp only [World.size_alloc, World.size_setCell, World.size_drew] at hb)
        have HB := Lib.hid hb
        clear hb
        have s3 := HB.out.size
        (try simp only [World.size_alloc, World.size_setCell, World.size_drew] at s3)
        replace d1 := Lib.hid (d1.out.below HB.out (by omega))
        replace d2 := Lib.hid (d2.out.below HB.out (by omega))
        replace d3 := Lib.hid (d3.out.below HB.out (by omega))
        replace Bd := Lib.hid (Bd.out.below HB.out (by omega))
        replace EB := Lib.hid (below_step HB.out EB.out (by omega))
        clear HB
        have l1 := Lib.hid hl
        have x1 := Lib.hid hd
        have x2 := Lib.hid hd'
        have x3 := Lib.hid hr
        clear hd hd' hr hl
        have vdl := Bd.out.lt
        have vd0 := (Bd.out.2 0 _ rfl).1
        have vd1 := (Bd.out.2 1 _ rfl).1
        have vd2 := (Bd.out.2 2 _ rfl).1
        have vd3 := (Bd.out.2 3 _ rfl).1
        have vd4 := (Bd.out.2 4 _ rfl).1
        have vd5 := (Bd.out.2 5 _ rfl).1
        go_wp2_with fail
        clear vdl vd0 vd1 vd2 vd3 vd4 vd5
        replace d1 := Lib.hid (d1.out.alloc (by omega) (.cells #[.slice Ax nx cx, .int .i64 (P), .slice Ax' nx' cx', .int .i64 (Q), .slice Ex mx kx, .int .i64 (yd)] 27))
        replace d2 := Lib.hid (d2.out.alloc (by omega) (.cells #[.slice Ax nx cx, .int .i64 (P), .slice Ax' nx' cx', .int .i64 (Q), .slice Ex mx kx, .int .i64 (yd)] 27))
        replace d3 := Lib.hid (d3.out.alloc (by omega) (.cells #[.slice Ax nx cx, .int .i64 (P), .slice Ax' nx' cx', .int .i64 (Q), .slice Ex mx kx, .int .i64 (yd)] 27))
        replace Bd := Lib.hid (Bd.out.alloc (.cells #[.slice Ax nx cx, .int .i64 (P), .slice Ax' nx' cx', .int .i64 (Q), .slice Ex mx kx, .int .i64 (yd)] 27))
        replace l1 := Lib.hid (l1.out.alloc (by omega) (.cells #[.slice Ax nx cx, .int .i64 (P), .slice Ax' nx' cx', .int .i64 (Q), .slice Ex mx kx, .int .i64 (yd)] 27))
        replace x1 := Lib.hid (x1.out.alloc (by omega) (.cells #[.slice Ax nx cx, .int .i64 (P), .slice Ax' nx' cx', .int .i64 (Q), .slice Ex mx kx, .int .i64 (yd)] 27))
        replace x2 := Lib.hid (x2.out.alloc (by omega) (.cells #[.slice Ax nx cx, .int .i64 (P), .slice Ax' nx' cx', .int .i64 (Q), .slice Ex mx kx, .int .i64 (yd)] 27))
        replace x3 := Lib.hid (x3.out.alloc (by omega) (.cells #[.slice Ax nx cx, .int .i64 (P), .slice Ax' nx' cx', .int .i64 (Q), .slice Ex mx kx, .int .i64 (yd)] 27))
        replace EB := Lib.hid (EB.out.alloc (by omega) (.cells #[.slice Ax nx cx, .int .i64 (P), .slice Ax' nx' cx', .int .i64 (Q), .slice Ex mx kx, .int .i64 (yd)] 27))
        have Bx := Lib.hid (Box.new w3 27 [.slice Ax nx cx, .int .i64 (P), .slice Ax' nx' cx', .int .i64 (Q), .slice Ex mx kx, .int .i64 (yd)])
        have s4 : w3.heap.size + 1 ≤ (w3.alloc (.cells #[.slice Ax nx cx, .int .i64 (P), .slice Ax' nx' cx', .int .i64 (Q), .slice Ex mx kx, .int .i64 (yd)] 27)).heap.size := by simp
        generalize w3.alloc (.cells #[.slice Ax nx cx, .int .i64 (P), .slice Ax' nx' cx', .int .i64 (Q), .slice Ex mx kx, .int .i64 (yd)] 27) = w4 at *
        refine (to_rli (SReadFull_x d1.out d2.out d3.out (by omega) (by omega) (by omega) hcd hcd' hkd (by omega) (by omega) (by omega) (by unfold okInt; omega)) HO.out).mono ?_
        rintro e w5 ⟨Ay, ny, cy, Ay', ny', cy', Ey, my, ky, Am, nm, cm, rfl, ⟨hcy, hcy', hky, hcm⟩, hb, hd, hd', hr, hl⟩
        (try simp only [World.size_alloc, World.size_setCell, World.size_drew] at hb)
        have HB := Lib.hid hb
        clear hb
        have s5 := HB.out.size
        (try simp only [World.size_alloc, World.size_setCell, World.size_drew] at s5)
        replace d1 := Lib.hid (d1.out.below HB.out (by omega))
        replace d2 := Lib.hid (d2.out.below HB.out (by omega))
        replace d3 := Lib.hid (d3.out.below HB.out (by omega))
        replace Bd := Lib.hid (Bd.out.below HB.out (by omega))
        replace l1 := Lib.hid (l1.out.below HB.out (by omega))
        replace x1 := Lib.hid (x1.out.below HB.out (by omega))
        replace x2 := Lib.hid (x2.out.below HB.out (by omega))
        replace x3 := Lib.hid (x3.out.below HB.out (by omega))
        replace Bx := Lib.hid (Bx.out.below HB.out (by omega))
        replace EB := Lib.hid (below_step HB.out EB.out (by omega))
        clear HB
        have m1 := Lib.hid hl
        have y1 := Lib.hid hd
        have y2 := Lib.hid hd'
        have y3 := Lib.hid hr
        clear hd hd' hr hl
        have vxl := Bx.out.lt
        have vx0 := (Bx.out.2 0 _ rfl).1
        have vx1 := (Bx.out.2 1 _ rfl).1
        have vx2 := (Bx.out.2 2 _ rfl).1
        have vx3 := (Bx.out.2 3 _ rfl).1
        have vx4 := (Bx.out.2 4 _ rfl).1
        have vx5 := (Bx.out.2 5 _ rfl).1
        go_wp2_with fail
        clear vxl vx0 vx1 vx2 vx3 vx4 vx5
        replace d1 := Lib.hid (d1.out.alloc (by omega) (.cells #[.slice Ay ny cy, .int .i64 (P), .slice Ay' ny' cy', .int .i64 (Q), .slice Ey my ky, .int .i64 (yd)] 27))
        replace d2 := Lib.hid (d2.out.alloc (by omega) (.cells #[.slice Ay ny cy, .int .i64 (P), .slice Ay' ny' cy', .int .i64 (Q), .slice Ey my ky, .int .i64 (yd)] 27))
        replace d3 := Lib.hid (d3.out.alloc (by omega) (.cells #[.slice Ay ny cy, .int .i64 (P), .slice Ay' ny' cy', .int .i64 (Q), .slice Ey my ky, .int .i64 (yd)] 27))
        replace Bd := Lib.hid (Bd.out.alloc (.cells #[.slice Ay ny cy, .int .i64 (P), .slice Ay' ny' cy', .int .i64 (Q), .slice Ey my ky, .int .i64 (yd)] 27))
        replace l1 := Lib.hid (l1.out.alloc (by omega) (.cells #[.slice Ay ny cy, .int .i64 (P), .slice Ay' ny' cy', .int .i64 (Q), .slice Ey my ky, .int .i64 (yd)] 27))
        replace x1 := Lib.hid (x1.out.alloc (by omega) (.cells #[.slice Ay ny cy, .int .i64 (P), .slice Ay' ny' cy', .int .i64 (Q), .slice Ey my ky, .int .i64 (yd)] 27))
        replace x2 := Lib.hid (x2.out.alloc (by omega) (.cells #[.slice Ay ny cy, .int .i64 (P), .slice Ay' ny' cy', .int .i64 (Q), .slice Ey my ky, .int .i64 (yd)] 27))
        replace x3 := Lib.hid (x3.out.alloc (by omega) (.cells #[.slice Ay ny cy, .int .i64 (P), .slice Ay' ny' cy', .int .i64 (Q), .slice Ey my ky, .int .i64 (yd)] 27))
        replace Bx := Lib.hid (Bx.out.alloc (.cells #[.slice Ay ny cy, .int .i64 (P), .slice Ay' ny' cy', .int .i64 (Q), .slice Ey my ky, .int .i64 (yd)] 27))
        replace m1 := Lib.hid (m1.out.alloc (by omega) (.cells #[.slice Ay ny cy, .int .i64 (P), .slice Ay' ny' cy', .int .i64 (Q), .slice Ey my ky, .int .i64 (yd)] 27))
        replace y1 := Lib.hid (y1.out.alloc (by omega) (.cells #[.slice Ay ny cy, .int .i64 (P), .slice Ay' ny' cy', .int .i64 (Q), .slice Ey my ky, .int .i64 (yd)] 27))
        replace y2 := Lib.hid (y2.out.alloc (by omega) (.cells #[.slice Ay ny cy, .int .i64 (P), .slice Ay' ny' cy', .int .i64 (Q), .slice Ey my ky, .int .i64 (yd)] 27))
        replace y3 := Lib.hid (y3.out.alloc (by omega) (.cells #[.slice Ay ny cy, .int .i64 (P), .slice Ay' ny' cy', .int .i64 (Q), .slice Ey my ky, .int .i64 (yd)] 27))
        replace EB := Lib.hid (EB.out.alloc (by omega) (.cells #[.slice Ay ny cy, .int .i64 (P), .slice Ay' ny' cy', .int .i64 (Q), .slice Ey my ky, .int .i64 (yd)] 27))
        have By := Lib.hid (Box.new w5 27 [.slice Ay ny cy, .int .i64 (P), .slice Ay' ny' cy', .int .i64 (Q), .slice Ey my ky, .int .i64 (yd)])
        have s6 : w5.heap.size + 1 ≤ (w5.alloc (.cells #[.slice Ay ny cy, .int .i64 (P), .slice Ay' ny' cy', .int .i64 (Q), .slice Ey my ky, .int .i64 (yd)] 27)).heap.size := by simp
        generalize w5.alloc (.cells #[.slice Ay ny cy, .int .i64 (P), .slice Ay' ny' cy', .int .i64 (Q), .slice Ey my ky, .int .i64 (yd)] 27) = w6 at *
        refine (equalReader_same x1.out x2.out x3.out y1.out y2.out y3.out (by omega) (by omega) (by omega) (by omega) (by omega) (by omega)).mono ?_
        rintro e w7 ⟨rfl, hb⟩
        (try simp only [World.size_alloc, World.size_setCell, World.size_drew] at hb)
        have HB := Lib.hid hb
        clear hb
        have s7 := HB.out.size
        (try simp only [World.size_alloc, World.size_setCell, World.size_drew] at s7)
        replace d1 := Lib.hid (d1.out.below HB.out (by omega))
        replace d2 := Lib.hid (d2.out.below HB.out (by omega))
        replace d3 := Lib.hid (d3.out.below HB.out (by omega))
        replace Bd := Lib.hid (Bd.out.below HB.out (by omega))
        replace l1 := Lib.hid (l1.out.below HB.out (by omega))
        replace x1 := Lib.hid (x1.out.below HB.out (by omega))
        replace x2 := Lib.hid (x2.out.below HB.out (by omega))
        replace x3 := Lib.hid (x3.out.below HB.out (by omega))
        replace Bx := Lib.hid (Bx.out.below HB.out (by omega))
        replace m1 := Lib.hid (m1.out.below HB.out (by omega))
        replace y1 := Lib.hid (y1.out.below HB.out (by omega))
        replace y2 := Lib.hid (y2.out.below HB.out (by omega))
        replace y3 := Lib.hid (y3.out.below HB.out (by omega))
        replace By := Lib.hid (By.out.below HB.out (by omega))
        replace EB := Lib.hid (below_step HB.out EB.out (by omega))
        clear HB
        go_wp2_with fail
        refine (equalInts_same l1.out m1.out rfl).mono ?_
        rintro e w8 ⟨rfl, hb⟩
        (try simp only [World.size_alloc, World.size_setCell, World.size_drew] at hb)
        have HB := Lib.hid hb
        clear hb
        have s8 := HB.out.size
        (try simp only [World.size_alloc, World.size_setCell, World.size_drew] at s8)
        replace d1 := Lib.hid (d1.out.below HB.out (by omega))
        replace d2 := Lib.hid (d2.out.below HB.out (by omega))
        replace d3 := Lib.hid (d3.out.below HB.out (by omega))
        replace Bd := Lib.hid (Bd.out.below HB.out (by omega))
        replace l1 := Lib.hid (l1.out.below HB.out (by omega))
        replace x1 := Lib.hid (x1.out.below HB.out (by omega))
        replace x2 := Lib.hid (x2.out.below HB.out (by omega))
        replace x3 := Lib.hid (x3.out.below HB.out (by omega))
        replace Bx := Lib.hid (Bx.out.below HB.out (by omega))
        replace m1 := Lib.hid (m1.out.below HB.out (by omega))
        replace y1 := Lib.hid (y1.out.below HB.out (by omega))
        replace y2 := Lib.hid (y2.out.below HB.out (by omega))
        replace y3 := Lib.hid (y3.out.below HB.out (by omega))
        replace By := Lib.hid (By.out.below HB.out (by omega))
        replace EB := Lib.hid (below_step HB.out EB.out (by omega))
        clear HB
        have vdl := Bd.out.lt
        have vd0 := (Bd.out.2 0 _ rfl).1
        have vd1 := (Bd.out.2 1 _ rfl).1
        have vd2 := (Bd.out.2 2 _ rfl).1
        have vd3 := (Bd.out.2 3 _ rfl).1
        have vd4 := (Bd.out.2 4 _ rfl).1
        have vd5 := (Bd.out.2 5 _ rfl).1
        go_wp2_with fail
        refine (to_boolN (IsSmooth_any d1.out d2.out (by omega) (by omega)) SM.out).mono ?_
        clear vdl vd0 vd1 vd2 vd3 vd4 vd5
        rintro e w9 ⟨rfl, hb⟩
        (try simp only [World.size_alloc, World.size_setCell, World.size_drew] at hb)
        have HB := Lib.hid hb
        clear hb
        have s9 := HB.out.size
        (try simp only [World.size_alloc, World.size_setCell, World.size_drew] at s9)
        replace d1 := Lib.hid (d1.out.below HB.out (by omega))
        replace d2 := Lib.hid (d2.out.below HB.out (by omega))
        replace d3 := Lib.hid (d3.out.below HB.out (by omega))
        replace Bd := Lib.hid (Bd.out.below HB.out (by omega))
        replace l1 := Lib.hid (l1.out.below HB.out (by omega))
        replace x1 := Lib.hid (x1.out.below HB.out (by omega))
        replace x2 := Lib.hid (x2.out.below HB.out (by omega))
        replace x3 := Lib.hid (x3.out.below HB.out (by omega))
        replace Bx := Lib.hid (Bx.out.below HB.out (by omega))
        replace m1 := Lib.hid (m1.out.below HB.out (by omega))
        replace y1 := Lib.hid (y1.out.below HB.out (by omega))
        replace y2 := Lib.hid (y2.out.below HB.out (by omega))
        replace y3 := Lib.hid (y3.out.below HB.out (by omega))
        replace By := Lib.hid (By.out.below HB.out (by omega))
        replace EB := Lib.hid (below_step HB.out EB.out (by omega))
        clear HB
        have vdl := Bd.out.lt
        have vd0 := (Bd.out.2 0 _ rfl).1
        have vd1 := (Bd.out.2 1 _ rfl).1
        have vd2 := (Bd.out.2 2 _ rfl).1
        have vd3 := (Bd.out.2 3 _ rfl).1
        have vd4 := (Bd.out.2 4 _ rfl).1
        have vd5 := (Bd.out.2 5 _ rfl).1
        go_wp2_with fail
        refine (to_listN (ahead_any d1.out d2.out d3.out (by omega) (by omega) (by omega) hcd (by omega)) AD.out).mono ?_
        clear vdl vd0 vd1 vd2 vd3 vd4 vd5
        rintro e w10 ⟨Au, nu, cu, rfl, hcu, hb, hl⟩
        (try simp only [World.size_alloc, World.size_setCell, World.size_drew] at hb)
        have HB := Lib.hid hb
        clear hb
        have s10 := HB.out.size
        (try simp only [World.size_alloc, World.size_setCell, World.size_drew] at s10)
        replace d1 := Lib.hid (d1.out.below HB.out (by omega))
        replace d2 := Lib.hid (d2.out.below HB.out (by omega))
        replace d3 := Lib.hid (d3.out.below HB.out (by omega))
        replace Bd := Lib.hid (Bd.out.below HB.out (by omega))
        replace l1 := Lib.hid (l1.out.below HB.out (by omega))
        replace x1 := Lib.hid (x1.out.below HB.out (by omega))
        replace x2 := Lib.hid (x2.out.below HB.out (by omega))
        replace x3 := Lib.hid (x3.out.below HB.out (by omega))
        replace Bx := Lib.hid (Bx.out.below HB.out (by omega))
        replace m1 := Lib.hid (m1.out.below HB.out (by omega))
        replace y1 := Lib.hid (y1.out.below HB.out (by omega))
        replace y2 := Lib.hid (y2.out.below HB.out (by omega))
        replace y3 := Lib.hid (y3.out.below HB.out (by omega))
        replace By := Lib.hid (By.out.below HB.out (by omega))
        replace EB := Lib.hid (below_step HB.out EB.out (by omega))
        clear HB
        have u1 := Lib.hid hl
        clear hl
        have hnu : N ≤ nu := by have h1 := u1.out.len; have h2 := HNL.out; omega
        have hnu1 : (N : Int) ≤ (nu : Int) := by omega
        have hnu2 : (N : Int) ≤ (cu : Int) := by omega
        have hn00 : (0 : Int) ≤ (N : Int) := by omega
        go_wp2_with fail
        refine (to_boolN (equalInts_same l1.out (u1.out.take (m := N) hnu) EQL.out) rfl).mono ?_
        rintro e w11 ⟨rfl, hb⟩
        (try simp only [World.size_alloc, World.size_setCell, World.size_drew] at hb)
        have HB := Lib.hid hb
        clear hb
        have s11 := HB.out.size
        (try simp only [World.size_alloc, World.size_setCell, World.size_drew] at s11)
        replace d1 := Lib.hid (d1.out.below HB.out (by omega))
        replace d2 := Lib.hid (d2.out.below HB.out (by omega))
        replace d3 := Lib.hid (d3.out.below HB.out (by omega))
        replace Bd := Lib.hid (Bd.out.below HB.out (by omega))
        replace l1 := Lib.hid (l1.out.below HB.out (by omega))
        replace x1 := Lib.hid (x1.out.below HB.out (by omega))
        replace x2 := Lib.hid (x2.out.below HB.out (by omega))
        replace x3 := Lib.hid (x3.out.below HB.out (by omega))
        replace Bx := Lib.hid (Bx.out.below HB.out (by omega))
        replace m1 := Lib.hid (m1.out.below HB.out (by omega))
        replace y1 := Lib.hid (y1.out.below HB.out (by omega))
        replace y2 := Lib.hid (y2.out.below HB.out (by omega))
        replace y3 := Lib.hid (y3.out.below HB.out (by omega))
        replace By := Lib.hid (By.out.below HB.out (by omega))
        replace u1 := Lib.hid (u1.out.below HB.out (by omega))
        replace EB := Lib.hid (below_step HB.out EB.out (by omega))
        clear HB
        go_wp2
        go_ret
        exact ⟨rfl, EB.out⟩
      · obtain ⟨hst, hL⟩ := hno hN
        subst hst
        try rw [Int.toNat_natCast] at hL
        have EQL := Lib.hid hL
        have HNL := Lib.hid hN
        clear hL hN hyes hno hs5
        refine (to_rli (ReadFull_x d1.out d2.out d3.out (by omega) (by omega) (by omega) hcd hcd' hkd (by omega) (by omega) (by omega) (by unfold okInt; omega)) HO.out).mono ?_
        rintro e w3 ⟨Ax, nx, cx, Ax', nx', cx', Ex, mx, kx, Al, nl, cl, rfl, ⟨hcx, hcx', hkx, hcl⟩, hb, hd, hd', hr, hl⟩
        (try simp only [World.size_alloc, World.size_setCell, World.size_drew] at hb)
        have HB := Lib.hid hb
        clear hb
        have s3 := HB.out.size
        (try simp only [World.size_alloc, World.size_setCell, World.size_drew] at s3)
        replace d1 := Lib.hid (d1.out.below HB.out (by omega))
        replace d2 := Lib.hid (d2.out.below HB.out (by omega))
        replace d3 := Lib.hid (d3.out.below HB.out (by omega))
        replace Bd := Lib.hid (Bd.out.below HB.out (by omega))
        replace EB := Lib.hid (below_step HB.out EB.out (by omega))
        clear HB
        have l1 := Lib.hid hl
        have x1 := Lib.hid hd
        have x2 := Lib.hid hd'
        have x3 := Lib.hid hr
        clear hd hd' hr hl
        have vdl := Bd.out.lt
        have vd0 := (Bd.out.2 0 _ rfl).1
        have vd1 := (Bd.out.2 1 _ rfl).1
        have vd2 := (Bd.out.2 2 _ rfl).1
        have vd3 := (Bd.out.2 3 _ rfl).1
        have vd4 := (Bd.out.2 4 _ rfl).1
        have vd5 := (Bd.out.2 5 _ rfl).1
        go_wp2_with fail
        clear vdl vd0 vd1 vd2 vd3 vd4 vd5
        replace d1 := Lib.hid (d1.out.alloc (by omega) (.cells #[.slice Ax nx cx, .int .i64 (P), .slice Ax' nx' cx', .int .i64 (Q), .slice Ex mx kx, .int .i64 (yd)] 27))
        replace d2 := Lib.hid (d2.out.alloc (by omega) (.cells #[.slice Ax nx cx, .int .i64 (P), .slice Ax' nx' cx', .int .i64 (Q), .slice Ex mx kx, .int .i64 (yd)] 27))
        replace d3 := Lib.hid (d3.out.alloc (by omega) (.cells #[.slice Ax nx cx, .int .i64 (P), .slice Ax' nx' cx', .int .i64 (Q), .slice Ex mx kx, .int .i64 (yd)] 27))
        replace Bd := Lib.hid (Bd.out.alloc (.cells #[.slice Ax nx cx, .int .i64 (P), .slice Ax' nx' cx', .int .i64 (Q), .slice Ex mx kx, .int .i64 (yd)] 27))
        replace l1 := Lib.hid (l1.out.alloc (by omega) (.cells #[.slice Ax nx cx, .int .i64 (P), .slice Ax' nx' cx', .int .i64 (Q), .slice Ex mx kx, .int .i64 (yd)] 27))
        replace x1 := Lib.hid (x1.out.alloc (by omega) (.cells #[.slice Ax nx cx, .int .i64 (P), .slice Ax' nx' cx', .int .i64 (Q), .slice Ex mx kx, .int .i64 (yd)] 27))
        replace x2 := Lib.hid (x2.out.alloc (by omega) (.cells #[.slice Ax nx cx, .int .i64 (P), .slice Ax' nx' cx', .int .i64 (Q), .slice Ex mx kx, .int .i64 (yd)] 27))
        replace x3 := Lib.hid (x3.out.alloc (by omega) (.cells #[.slice Ax nx cx, .int .i64 (P), .slice Ax' nx' cx', .int .i64 (Q), .slice Ex mx kx, .int .i64 (yd)] 27))
        replace EB := Lib.hid (EB.out.alloc (by omega) (.cells #[.slice Ax nx cx, .int .i64 (P), .slice Ax' nx' cx', .int .i64 (Q), .slice Ex mx kx, .int .i64 (yd)] 27))
        have Bx := Lib.hid (Box.new w3 27 [.slice Ax nx cx, .int .i64 (P), .slice Ax' nx' cx', .int .i64 (Q), .slice Ex mx kx, .int .i64 (yd)])
        have s4 : w3.heap.size + 1 ≤ (w3.alloc (.cells #[.slice Ax nx cx, .int .i64 (P), .slice Ax' nx' cx', .int .i64 (Q), .slice Ex mx kx, .int .i64 (yd)] 27)).heap.size := by simp
        generalize w3.alloc (.cells #[.slice Ax nx cx, .int .i64 (P), .slice Ax' nx' cx', .int .i64 (Q), .slice Ex mx kx, .int .i64 (yd)] 27) = w4 at *
        refine (to_rli (SReadFull_x d1.out d2.out d3.out (by omega) (by omega) (by omega) hcd hcd' hkd (by omega) (by omega) (by omega) (by unfold okInt; omega)) HO.out).mono ?_
        rintro e w5 ⟨Ay, ny, cy, Ay', ny', cy', Ey, my, ky, Am, nm, cm, rfl, ⟨hcy, hcy', hky, hcm⟩, hb, hd, hd', hr, hl⟩
        (try simp only [World.size_alloc, World.size_setCell, World.size_drew] at hb)
        have HB := Lib.hid hb
        clear hb
        have s5 := HB.out.size
        (try simp only [World.size_alloc, World.size_setCell, World.size_drew] at s5)
        replace d1 := Lib.hid (d1.out.below HB.out (by omega))
        replace d2 := Lib.hid (d2.out.below HB.out (by omega))
        replace d3 := Lib.hid (d3.out.below HB.out (by omega))
        replace Bd := Lib.hid (Bd.out.below HB.out (by omega))
        replace l1 := Lib.hid (l1.out.below HB.out (by omega))
        replace x1 := Lib.hid (x1.out.below HB.out (by omega))
        replace x2 := Lib.hid (x2.out.below HB.out (by omega))
        replace x3 := Lib.hid (x3.out.below HB.out (by omega))
        replace Bx := Lib.hid (Bx.out.below HB.out (by omega))
        replace EB := Lib.hid (below_step HB.out EB.out (by omega))
        clear HB
        have m1 := Lib.hid hl
        have y1 := Lib.hid hd
        have y2 := Lib.hid hd'
        have y3 := Lib.hid hr
        clear hd hd' hr hl
        have vxl := Bx.out.lt
        have vx0 := (Bx.out.2 0 _ rfl).1
        have vx1 := (Bx.out.2 1 _ rfl).1
        have vx2 := (Bx.out.2 2 _ rfl).1
        have vx3 := (Bx.out.2 3 _ rfl).1
        have vx4 := (Bx.out.2 4 _ rfl).1
        have vx5 := (Bx.out.2 5 _ rfl).1
        go_wp2_with fail
        clear vxl vx0 vx1 vx2 vx3 vx4 vx5
        replace d1 := Lib.hid (d1.out.alloc (by omega) (.cells #[.slice Ay ny cy, .int .i64 (P), .slice Ay' ny' cy', .int .i64 (Q), .slice Ey my ky, .int .i64 (yd)] 27))
        replace d2 := Lib.hid (d2.out.alloc (by omega) (.cells #[.slice Ay ny cy, .int .i64 (P), .slice Ay' ny' cy', .int .i64 (Q), .slice Ey my ky, .int .i64 (yd)] 27))
        replace d3 := Lib.hid (d3.out.alloc (by omega) (.cells #[.slice Ay ny cy, .int .i64 (P), .slice Ay' ny' cy', .int .i64 (Q), .slice Ey my ky, .int .i64 (yd)] 27))
        replace Bd := Lib.hid (Bd.out.alloc (.cells #[.slice Ay ny cy, .int .i64 (P), .slice Ay' ny' cy', .int .i64 (Q), .slice Ey my ky, .int .i64 (yd)] 27))
        replace l1 := Lib.hid (l1.out.alloc (by omega) (.cells #[.slice Ay ny cy, .int .i64 (P), .slice Ay' ny' cy', .int .i64 (Q), .slice Ey my ky, .int .i64 (yd)] 27))
        replace x1 := Lib.hid (x1.out.alloc (by omega) (.cells #[.slice Ay ny cy, .int .i64 (P), .slice Ay' ny' cy', .int .i64 (Q), .slice Ey my ky, .int .i64 (yd)] 27))
        replace x2 := Lib.hid (x2.out.alloc (by omega) (.cells #[.slice Ay ny cy, .int .i64 (P), .slice Ay' ny' cy', .int .i64 (Q), .slice Ey my ky, .int .i64 (yd)] 27))
        replace x3 := Lib.hid (x3.out.alloc (by omega) (.cells #[.slice Ay ny cy, .int .i64 (P), .slice Ay' ny' cy', .int .i64 (Q), .slice Ey my ky, .int .i64 (yd)] 27))
        replace Bx := Lib.hid (Bx.out.alloc (.cells #[.slice Ay ny cy, .int .i64 (P), .slice Ay' ny' cy', .int .i64 (Q), .slice Ey my ky, .int .i64 (yd)] 27))
        replace m1 := Lib.hid (m1.out.alloc (by omega) (.cells #[.slice Ay ny cy, .int .i64 (P), .slice Ay' ny' cy', .int .i64 (Q), .slice Ey my ky, .int .i64 (yd)] 27))
        replace y1 := Lib.hid (y1.out.alloc (by omega) (.cells #[.slice Ay ny cy, .int .i64 (P), .slice Ay' ny' cy', .int .i64 (Q), .slice Ey my ky, .int .i64 (yd)] 27))
        replace y2 := Lib.hid (y2.out.alloc (by omega) (.cells #[.slice Ay ny cy, .int .i64 (P), .slice Ay' ny' cy', .int .i64 (Q), .slice Ey my ky, .int .i64 (yd)] 27))
        replace y3 := Lib.hid (y3.out.alloc (by omega) (.cells #[.slice Ay ny cy, .int .i64 (P), .slice Ay' ny' cy', .int .i64 (Q), .slice Ey my ky, .int .i64 (yd)] 27))
        replace EB := Lib.hid (EB.out.alloc (by omega) (.cells #[.slice Ay ny cy, .int .i64 (P), .slice Ay' ny' cy', .int .i64 (Q), .slice Ey my ky, .int .i64 (yd)] 27))
        have By := Lib.hid (Box.new w5 27 [.slice Ay ny cy, .int .i64 (P), .slice Ay' ny' cy', .int .i64 (Q), .slice Ey my ky, .int .i64 (yd)])
        have s6 : w5.heap.size + 1 ≤ (w5.alloc (.cells #[.slice Ay ny cy, .int .i64 (P), .slice Ay' ny' cy', .int .i64 (Q), .slice Ey my ky, .int .i64 (yd)] 27)).heap.size := by simp
        generalize w5.alloc (.cells #[.slice Ay ny cy, .int .i64 (P), .slice Ay' ny' cy', .int .i64 (Q), .slice Ey my ky, .int .i64 (yd)] 27) = w6 at *
        refine (equalReader_same x1.out x2.out x3.out y1.out y2.out y3.out (by omega) (by omega) (by omega) (by omega) (by omega) (by omega)).mono ?_
        rintro e w7 ⟨rfl, hb⟩
        (try simp only [World.size_alloc, World.size_setCell, World.size_drew] at hb)
        have HB := Lib.hid hb
        clear hb
        have s7 := HB.out.size
        (try simp only [World.size_alloc, World.size_setCell, World.size_drew] at s7)
        replace d1 := Lib.hid (d1.out.below HB.out (by omega))
        replace d2 := Lib.hid (d2.out.below HB.out (by omega))
        replace d3 := Lib.hid (d3.out.below HB.out (by omega))
        replace Bd := Lib.hid (Bd.out.below HB.out (by omega))
        replace l1 := Lib.hid (l1.out.below HB.out (by omega))
        replace x1 := Lib.hid (x1.out.below HB.out (by omega))
        replace x2 := Lib.hid (x2.out.below HB.out (by omega))
        replace x3 := Lib.hid (x3.out.below HB.out (by omega))
        replace Bx := Lib.hid (Bx.out.below HB.out (by omega))
        replace m1 := Lib.hid (m1.out.below HB.out (by omega))
        replace y1 := Lib.hid (y1.out.below HB.out (by omega))
        replace y2 := Lib.hid (y2.out.below HB.out (by omega))
        replace y3 := Lib.hid (y3.out.below HB.out (by omega))
        replace By := Lib.hid (By.out.below HB.out (by omega))
        replace EB := Lib.hid (below_step HB.out EB.out (by omega))
        clear HB
        go_wp2_with fail
        refine (equalInts_same l1.out m1.out rfl).mono ?_
        rintro e w8 ⟨rfl, hb⟩
        (try simp only [World.size_alloc, World.size_setCell, World.size_drew] at hb)
        have HB := Lib.hid hb
        clear hb
        have s8 := HB.out.size
        (try simp only [World.size_alloc, World.size_setCell, World.size_drew] at s8)
        replace d1 := Lib.hid (d1.out.below HB.out (by omega))
        replace d2 := Lib.hid (d2.out.below HB.out (by omega))
        replace d3 := Lib.hid (d3.out.below HB.out (by omega))
        replace Bd := Lib.hid (Bd.out.below HB.out (by omega))
        replace l1 := Lib.hid (l1.out.below HB.out (by omega))
        replace x1 := Lib.hid (x1.out.below HB.out (by omega))
        replace x2 := Lib.hid (x2.out.below HB.out (by omega))
        replace x3 := Lib.hid (x3.out.below HB.out (by omega))
        replace Bx := Lib.hid (Bx.out.below HB.out (by omega))
        replace m1 := Lib.hid (m1.out.below HB.out (by omega))
        replace y1 := Lib.hid (y1.out.below HB.out (by omega))
        replace y2 := Lib.hid (y2.out.below HB.out (by omega))
        replace y3 := Lib.hid (y3.out.below HB.out (by omega))
        replace By := Lib.hid (By.out.below HB.out (by omega))
        replace EB := Lib.hid (below_step HB.out EB.out (by omega))
        clear HB
        have vdl := Bd.out.lt
        have vd0 := (Bd.out.2 0 _ rfl).1
        have vd1 := (Bd.out.2 1 _ rfl).1
        have vd2 := (Bd.out.2 2 _ rfl).1
        have vd3 := (Bd.out.2 3 _ rfl).1
        have vd4 := (Bd.out.2 4 _ rfl).1
        have vd5 := (Bd.out.2 5 _ rfl).1
        go_wp2_with fail
        refine (to_boolN (IsSmooth_any d1.out d2.out (by omega) (by omega)) SM.out).mono ?_
        clear vdl vd0 vd1 vd2 vd3 vd4 vd5
        rintro e w9 ⟨rfl, hb⟩
        (try simp only [World.size_alloc, World.size_setCell, World.size_drew] at hb)
        have HB := Lib.hid hb
        clear hb
        have s9 := HB.out.size
        (try simp only [World.size_alloc, World.size_setCell, World.size_drew] at s9)
        replace d1 := Lib.hid (d1.out.below HB.out (by omega))
        replace d2 := Lib.hid (d2.out.below HB.out (by omega))
        replace d3 := Lib.hid (d3.out.below HB.out (by omega))
        replace Bd := Lib.hid (Bd.out.below HB.out (by omega))
        replace l1 := Lib.hid (l1.out.below HB.out (by omega))
        replace x1 := Lib.hid (x1.out.below HB.out (by omega))
        replace x2 := Lib.hid (x2.out.below HB.out (by omega))
        replace x3 := Lib.hid (x3.out.below HB.out (by omega))
        replace Bx := Lib.hid (Bx.out.below HB.out (by omega))
        replace m1 := Lib.hid (m1.out.below HB.out (by omega))
        replace y1 := Lib.hid (y1.out.below HB.out (by omega))
        replace y2 := Lib.hid (y2.out.below HB.out (by omega))
        replace y3 := Lib.hid (y3.out.below HB.out (by omega))
        replace By := Lib.hid (By.out.below HB.out (by omega))
        replace EB := Lib.hid (below_step HB.out EB.out (by omega))
        clear HB
        have vdl := Bd.out.lt
        have vd0 := (Bd.out.2 0 _ rfl).1
        have vd1 := (Bd.out.2 1 _ rfl).1
        have vd2 := (Bd.out.2 2 _ rfl).1
        have vd3 := (Bd.out.2 3 _ rfl).1
        have vd4 := (Bd.out.2 4 _ rfl).1
        have vd5 := (Bd.out.2 5 _ rfl).1
        go_wp2_with fail
        refine (to_listN (ahead_any d1.out d2.out d3.out (by omega) (by omega) (by omega) hcd (by omega)) AD.out).mono ?_
        clear vdl vd0 vd1 vd2 vd3 vd4 vd5
        rintro e w10 ⟨Au, nu, cu, rfl, hcu, hb, hl⟩
        (try simp only [World.size_alloc, World.size_setCell, World.size_drew] at hb)
        have HB := Lib.hid hb
        clear hb
        have s10 := HB.out.size
        (try simp only [World.size_alloc, World.size_setCell, World.size_drew] at s10)
        replace d1 := Lib.hid (d1.out.below HB.out (by omega))
        replace d2 := Lib.hid (d2.out.below HB.out (by omega))
        replace d3 := Lib.hid (d3.out.below HB.out (by omega))
        replace Bd := Lib.hid (Bd.out.below HB.out (by omega))
        replace l1 := Lib.hid (l1.out.below HB.out (by omega))
        replace x1 := Lib.hid (x1.out.below HB.out (by omega))
        replace x2 := Lib.hid (x2.out.below HB.out (by omega))
        replace x3 := Lib.hid (x3.out.below HB.out (by omega))
        replace Bx := Lib.hid (Bx.out.below HB.out (by omega))
        replace m1 := Lib.hid (m1.out.below HB.out (by omega))
        replace y1 := Lib.hid (y1.out.below HB.out (by omega))
        replace y2 := Lib.hid (y2.out.below HB.out (by omega))
        replace y3 := Lib.hid (y3.out.below HB.out (by omega))
        replace By := Lib.hid (By.out.below HB.out (by omega))
        replace EB := Lib.hid (below_step HB.out EB.out (by omega))
        clear HB
        have u1 := Lib.hid hl
        clear hl
        have hnu : ¬ (N : Int) ≤ (nu : Int) := by have h1 := u1.out.len; have h2 := HNL.out; omega
        go_wp2_with fail
        refine (to_boolN (equalInts_same l1.out u1.out EQL.out) rfl).mono ?_
        rintro e w11 ⟨rfl, hb⟩
        (try simp only [World.size_alloc, World.size_setCell, World.size_drew] at hb)
        have HB := Lib.hid hb
        clear hb
        have s11 := HB.out.size
        (try simp only [World.size_alloc, World.size_setCell, World.size_drew] at s11)
        replace d1 := Lib.hid (d1.out.below HB.out (by omega))
        replace d2 := Lib.hid (d2.out.below HB.out (by omega))
        replace d3 := Lib.hid (d3.out.below HB.out (by omega))
        replace Bd := Lib.hid (Bd.out.below HB.out (by omega))
        replace l1 := Lib.hid (l1.out.below HB.out (by omega))
        replace x1 := Lib.hid (x1.out.below HB.out (by omega))
        replace x2 := Lib.hid (x2.out.below HB.out (by omega))
        replace x3 := Lib.hid (x3.out.below HB.out (by omega))
        replace Bx := Lib.hid (Bx.out.below HB.out (by omega))
        replace m1 := Lib.hid (m1.out.below HB.out (by omega))
        replace y1 := Lib.hid (y1.out.below HB.out (by omega))
        replace y2 := Lib.hid (y2.out.below HB.out (by omega))
        replace y3 := Lib.hid (y3.out.below HB.out (by omega))
        replace By := Lib.hid (By.out.below HB.out (by omega))
        replace u1 := Lib.hid (u1.out.below HB.out (by omega))
        replace EB := Lib.hid (below_step HB.out EB.out (by omega))
        clear HB
        go_wp2
        go_ret
        exact ⟨rfl, EB.out⟩

theorem contract (H : Type) (enc : TypeId × Value → H) (W : World) (base : Nat) (args : Array Value) (ds gs : List (DataW H)) (before : List MemPlace)
    (hval : ∀ (j : Nat) t v, Try.f3.params[j]? = some t → args[j]? = some v → Value.okWide Try.prog W .any base t v)
    (hW : DataW.Whole enc Try.prog Try.f3.params.toList Rows.fnReadFullSmoothSpec.vars false W args.toList ds gs before) :
    Calls Try.prog 3 args W fun e W' => ∃ v, e = .returned v ∧ Rows.fnReadFullSmoothSpec.post enc Try.prog Try.f3 false true false false W args v W' := by
  have hW' := hW
  have hlt : ∀ p ∈ before, p.block < W.heap.size := fun p hp => hW.lt p hp
  obtain ⟨p, q, hA0, hV, rfl, hfz, hnd⟩ := hW
  have hA : DataW.TrodAll enc Try.prog W 0 (fun _ => true) true Try.f3.params.toList args.toList ds p := hA0
  rw [Try.params3] at hA hval
  obtain ⟨v0, vs0, d0, ds0, p0, q0, hargs, rfl, rfl, h0, r0⟩ := trodAll_cons hA
  obtain ⟨rfl, rfl, rfl⟩ := trodAll_nil r0
  obtain rfl : args = #[v0] := by cases args; simp_all
  obtain ⟨rfl, rfl⟩ := trodVars_none hV
  obtain ⟨A, n, c, rfl, hnc, hby, hmx⟩ := arg_bytes (hval 0 _ v0 rfl rfl) h0 (fun p hp => hlt p (by simp [hp]))
  refine (walk A n c W hby hnc hmx).mono fun e W' hh => ?_
  obtain ⟨rfl, hb⟩ := hh
  exact ⟨_, rfl, law_post laidOut (tys_of (by rw [Try.params3]; kernel_rfl)) hW' rfl rfl rfl Try.underlying4 hb⟩

set_option maxRecDepth 100000 in
theorem lifted (os : Os) (started : os.Started) (H : Type) (enc : TypeId × Value → H) :
    ReturnsInHanded {} Try.checked os 3 .any (Rows.fnReadFullSmoothSpec.pre6 enc Try.prog Try.f3 Rows.fnReadFullSmoothRow.domain false) (Rows.fnReadFullSmoothSpec.post enc Try.prog Try.f3 false true false false) := by
  refine returnsInHanded_of_change (C := Try.checked) own started (by kernel_rfl) Try.func3
    (ChangeSpec.witness6 (C := Try.checked) false ⟨#[], #[.slice none 0 0], []⟩ 8 (by kernel_rfl) (by kernel_rfl) (by kernel_rfl) (by kernel_rfl)) ?_
  intro W base args ds gs before hval hW _ _
  exact contract H enc W base args ds gs before hval hW

theorem holds : Rows.FnReadFullSmoothSaid :=
  OpenClaim.holds_of_wide 3 Try.f3 rfl rfl rfl rfl rfl rfl rfl ⟨rfl, rfl, rfl, rfl, rfl⟩ rfl rfl rfl rfl rfl (by kernel_rfl) Try.func3 (by kernel_rfl)
    (of_decide_eq_true (by kernel_rfl)) (by unfold Func.isWrapper; first | (rw [if_pos (by decide +kernel)]; kernel_rfl) | (rw [if_neg (by decide +kernel)]; exact ⟨rfl, rfl⟩))
    (fun os started H enc _ => lifted os started H enc)
end LawReadFullSmooth
end Go.Proofs.Ytjcbldijfnebpaa
