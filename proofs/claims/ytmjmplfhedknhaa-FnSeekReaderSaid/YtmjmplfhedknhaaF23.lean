/- The law of promise 23: after a reader went to another place what is ahead are the bytes from there on, its device stays where that was read ahead, and no call is made. No conditions. -/
import Derived.Test.YtmjmplfhedknhaaH1
import Derived.Test.YtmjmplfhedknhaaH3
import Derived.Test.YtmjmplfhedknhaaS2h
set_option maxRecDepth 10000
namespace Go.Proofs.Ytmjmplfhedknhaa
open Go.ChangeShapes Go.WideShapes Go.ChangeAt Go.RowKit
set_option linter.unusedSimpArgs false
set_option linter.unusedVariables false
namespace LawSeekReader
/-- A reader of numbers that are named, and a bool. -/
theorem to_rbR {f : Nat} {args : Array Value} {w : World} {o : Rv × Bool} {D S R : List Int} {p q z : Int} {b : Bool} (h : Calls Try.prog f args w (Post2R o w)) (e : o = (⟨D, p, S, q, R, z⟩, b)) :
    Calls Try.prog f args w (fun e w' => ∃ A n c A' n' c' A2 n2 c2, e = .returned (.tuple #[.agg #[.slice (A) n c, .int .i64 (p), .slice (A') n' c', .int .i64 (q), .slice (A2) n2 c2, .int .i64 (z)], .bool b]) ∧ (n ≤ c ∧ n' ≤ c' ∧ n2 ≤ c2) ∧ Below w.heap.size w w' ∧
      Ints w' w.heap.size w'.heap.size A n D ∧ Ints w' w.heap.size w'.heap.size A' n' S ∧ Ints w' w.heap.size w'.heap.size A2 n2 R) := by
  subst e
  exact h.mono fun e w' hh => by
    obtain ⟨A, n, c, A', n', c', A2, n2, c2, he, hc, hb, ⟨⟨hd, hd', _, _, _⟩, hr, _, _, _⟩⟩ := hh
    exact ⟨A, n, c, A', n', c', A2, n2, c2, he, hc, hb, hd, hd', hr⟩
theorem seekAt_ofR {size now off wh t : Int} (h : seekAt size now off wh = some t) : (0 ≤ t ∧ t ≤ 60) ∧ (0 ≤ wh ∧ wh ≤ 2) ∧ (-60 ≤ off ∧ off ≤ 60) ∧ t = (if wh = 1 then now + off else if wh = 2 then size + off else off) := by
  unfold seekAt at h
  generalize (if wh = 1 then now + off else if wh = 2 then size + off else off) = u at h ⊢
  split at h
  · rename_i h1
    split at h
    · rename_i h2
      injection h with h
      subst h
      simp [inB] at h1 h2
      exact ⟨h2, by omega, by omega, rfl⟩
    · cases h
  · cases h
theorem rseek_no {D S R : List Int} {p q z off wh : Int} (h : (seekROut D p S q R z off wh).2 = false) : seekROut D p S q R z off wh = (⟨[], 0, [], 0, [], 0⟩, false) := by
  unfold seekROut at h ⊢
  split at h
  · cases h
  · rename_i h1
    rw [if_neg h1]; rfl
theorem rseek_yes {D S R : List Int} {p q z off wh : Int} (h : (seekROut D p S q R z off wh).2 = true) : ∃ (t T : Nat) (P : Int) (R1 : List Int),
    seekROut D p S q R z off wh = (⟨D, P, S, q, R1, z⟩, true) ∧ tellOut D p S q R z = (t : Int) ∧ R ++ restL D p S q = D.drop t ∧ validR D P S q R1 z = true ∧ tellOut D P S q R1 z = (T : Int) ∧ R1 ++ restL D P S q = D.drop T ∧ R1.length ≤ 16 ∧ T ≤ 60 ∧ (t ≤ T → (T : Int) ≤ p → P = p) := by
  unfold seekROut at h ⊢
  split at h
  · rename_i h1
    rw [if_pos h1]
    obtain ⟨hv, hs⟩ := Bool.and_eq_true_iff.1 h1
    obtain ⟨x, hx⟩ := Option.isSome_iff_exists.1 hs
    obtain ⟨hx0, _, _, _⟩ := seekAt_ofR hx
    obtain ⟨T, rfl⟩ := Int.eq_ofNat_of_zero_le hx0.1
    rw [hx]
    obtain ⟨t, hat⟩ := RAt.of_valid hv
    obtain ⟨hvd, hz, hRz, _⟩ := validR_iff.1 hv
    have hp := hat.1
    have ht := hat.tell hv
    have hah := hat.ahead hvd
    show ∃ (t T1 : Nat) (P : Int) (R1 : List Int), ((⟨D, skP p R (T : Int), S, q, skR p R (T : Int), z⟩ : Rv), true) = (⟨D, P, S, q, R1, z⟩, true) ∧ _
    have hq0 := (validD_iff.1 hvd).2.2.2.2
    have hqq : (q.toNat : Int) = q := Int.toNat_of_nonneg hq0.1
    by_cases hi : skIn p R (T : Int) = true
    · have e1 : skP p R (T : Int) = p := by unfold skP; rw [if_pos hi]
      have e2 : skR p R (T : Int) = R.drop (T - t) := by unfold skR; rw [if_pos hi]; congr 1; omega
      rw [e1, e2]
      have hi2 : (p - (R.length : Int)) ≤ (T : Int) ∧ (T : Int) ≤ p := by simpa [skIn, inB] using hi
      have hd := hat.drop (m := T - t) (by omega)
      rw [show t + (T - t) = T by omega] at hd
      have hvr := hd.valid hvd hz (by rw [List.length_drop]; omega)
      exact ⟨t, T, p, R.drop (T - t), rfl, ht, hah, hvr, hd.tell hvr, hd.ahead hvd, by rw [List.length_drop]; omega, by omega, fun _ _ => rfl⟩
    · have e1 : skP p R (T : Int) = (T : Int) := by unfold skP; rw [if_neg hi]
      have e2 : skR p R (T : Int) = [] := by unfold skR; rw [if_neg hi]
      rw [e1, e2]
      have hi2 : ¬ ((p - (R.length : Int)) ≤ (T : Int) ∧ (T : Int) ≤ p) := by simpa [skIn, inB] using hi
      have hd : RAt D (T : Int) [] T := ⟨by simp, by simp, .inl rfl⟩
      have hv2 : validD D (T : Int) S q = true := by
        have h1 := validD_iff.1 hvd
        exact validD_iff.2 ⟨h1.1, h1.2.1, h1.2.2.1, by omega, h1.2.2.2.2⟩
      have hvr := hd.valid hv2 hz (by simp; omega)
      exact ⟨t, T, (T : Int), [], rfl, ht, hah, hvr, hd.tell hvr, hd.ahead hv2, by simp, by omega, fun h1 h2 => absurd ⟨by omega, h2⟩ hi2⟩
  · cases h
theorem rseek_back {D S R : List Int} {p q z : Int} {t m : Nat} (hv : validR D p S q R z = true) (ht : tellOut D p S q R z = (t : Int) + (m : Int)) (hm : m ≤ 60) : ∃ (P : Int) (R1 : List Int),
    seekROut D p S q R z (-(m : Int)) 1 = (⟨D, P, S, q, R1, z⟩, true) ∧ validR D P S q R1 z = true ∧ tellOut D P S q R1 z = (t : Int) ∧ R1 ++ restL D P S q = D.drop t ∧ R1.length ≤ 16 := by
  have hp : p - (R.length : Int) = (t : Int) + (m : Int) := by rw [← ht]; unfold tellOut; rw [hv]; rfl
  have h60 := tell_ok hv
  have hs : seekAt D.length (p - (R.length : Int)) (-(m : Int)) 1 = some (t : Int) := by
    unfold seekAt
    rw [hp]
    simp [inB]
    omega
  have h2 : (seekROut D p S q R z (-(m : Int)) 1).2 = true := by
    unfold seekROut; rw [hv, hs]; rfl
  obtain ⟨t1, T, P, R1, ho, _, _, h3, h4, h5, h6, _, _⟩ := rseek_yes h2
  have e : (T : Int) = (t : Int) := by
    rw [← h4]
    unfold seekROut at ho
    rw [hv, hs] at ho
    simp only [seekOk, Option.isSome_some, Bool.and_self, if_true, Prod.mk.injEq, and_true] at ho
    injection ho with _ e1 _ _ e2 _
    rw [← e1, ← e2] at h3 ⊢
    unfold tellOut
    rw [h3]
    show skP p R (t : Int) - ((skR p R (t : Int)).length : Int) = (t : Int)
    unfold skP skR
    by_cases hi : skIn p R (t : Int) = true
    · rw [if_pos hi, if_pos hi, List.length_drop]
      have hi2 : (p - (R.length : Int)) ≤ (t : Int) ∧ (t : Int) ≤ p := by simpa [skIn, inB] using hi
      omega
    · rw [if_neg hi, if_neg hi]; simp
  have e' : T = t := by omega
  subst e'
  exact ⟨P, R1, ho, h3, h4, h5, h6⟩
set_option maxHeartbeats 8000000 in
theorem walk (A : Option Addr) (n c : Nat) (w : World) (h : BytesIn w w.heap.size A n) (hnc : n ≤ c) (hm : n ≤ 9223372036854775807) :
    Calls Try.prog 6 #[.slice A n c] w (BoolB true w) := by
  have HBY := Lib.hid h
  clear h
  have EB := Lib.hid (Below.refl w.heap.size w)
  by_cases hbig : (1048576 : Int) < (n : Int)
  · go_enter Try.func6, Try.ntmps6
    go_wp2
    go_ret
    exact ⟨rfl, Below.refl _ _⟩
  go_enter Try.func6, Try.ntmps6
  go_wp2_with fail
  refine (DrawSeekReader_any HBY.out (by omega) hnc).mono ?_
  rintro e w1 ⟨Ad, nd, cd, Ad', nd', cd', Ed, md, kd, Dd, Sd, Rd, pd, qd, yd, zo, zw, rfl, ⟨⟨hcd, hcd', hkd⟩, ⟨hnd, hnd', hmd⟩, hpd, hqd, hyd, hb, hd, hd', hr⟩, hzo, hzw⟩
  (try simp only [World.size_alloc, World.size_setCell, World.size_drew] at hb)
  have HB := Lib.hid hb
  clear hb
  have s1 := HB.out.size
  (try simp only [World.size_alloc, World.size_setCell, World.size_drew] at s1)
  replace EB := Lib.hid (below_step HB.out EB.out (by omega))
  clear HB
  clear HBY
  have d1 := Lib.hid hd
  have d2 := Lib.hid hd'
  have d3 := Lib.hid hr
  clear hd hd' hr
  go_wp2_with fail
  replace d1 := Lib.hid (d1.out.alloc (by omega) (.cells #[.slice Ad nd cd, .int .i64 (pd), .slice Ad' nd' cd', .int .i64 (qd), .slice Ed md kd, .int .i64 (yd)] 27))
  replace d2 := Lib.hid (d2.out.alloc (by omega) (.cells #[.slice Ad nd cd, .int .i64 (pd), .slice Ad' nd' cd', .int .i64 (qd), .slice Ed md kd, .int .i64 (yd)] 27))
  replace d3 := Lib.hid (d3.out.alloc (by omega) (.cells #[.slice Ad nd cd, .int .i64 (pd), .slice Ad' nd' cd', .int .i64 (qd), .slice Ed md kd, .int .i64 (yd)] 27))
  replace EB := Lib.hid (EB.out.alloc (by omega) (.cells #[.slice Ad nd cd, .int .i64 (pd), .slice Ad' nd' cd', .int .i64 (qd), .slice Ed md kd, .int .i64 (yd)] 27))
  have Bd := Lib.hid (Box.new w1 27 [.slice Ad nd cd, .int .i64 (pd), .slice Ad' nd' cd', .int .i64 (qd), .slice Ed md kd, .int .i64 (yd)])
  have s2 : w1.heap.size + 1 ≤ (w1.alloc (.cells #[.slice Ad nd cd, .int .i64 (pd), .slice Ad' nd' cd', .int .i64 (qd), .slice Ed md kd, .int .i64 (yd)] 27)).heap.size := by simp
  generalize w1.alloc (.cells #[.slice Ad nd cd, .int .i64 (pd), .slice Ad' nd' cd', .int .i64 (qd), .slice Ed md kd, .int .i64 (yd)] 27) = w2 at *
  cases hok : (seekROut Dd pd Sd qd Rd yd zo zw).2
  · refine (to_rbR (SeekReader_x d1.out d2.out d3.out (by omega) (by omega) (by omega) hcd hcd' hkd (by omega) (by omega) (by omega) (by unfold okInt; omega) (by unfold okInt; omega)) (rseek_no hok)).mono ?_
    rintro e w3 ⟨Ax, nx, cx, Ax', nx', cx', Ex, mx, kx, rfl, ⟨hcx, hcx', hkx⟩, hb, hd, hd', hr⟩
    (try simp only [World.size_alloc, World.size_setCell, World.size_drew] at hb)
    have HB := Lib.hid hb
    clear hb
    have s3 := HB.out.size
    (try simp only [World.size_alloc, World.size_setCell, World.size_drew] at s3)
    replace d1 := Lib.hid (d1.out.below HB.out (by omega))
    replace d2 := Lib.hid (d2.out.below HB.out (by omega))
    replace d3 := Lib.hid (d3.out.below HB.out (by omega))
    replace Bd := Lib.hid (Bd.out.below HB.out (by omega))
    replace EB := Lib.hid (below_step HB.out EB.out (by omega))
    clear HB
    have x1 := Lib.hid hd
    have x2 := Lib.hid hd'
    have x3 := Lib.hid hr
    clear hd hd' hr
    have vdl := Bd.out.lt
    have vd0 := (Bd.out.2 0 _ rfl).1
    have vd1 := (Bd.out.2 1 _ rfl).1
    have vd2 := (Bd.out.2 2 _ rfl).1
    have vd3 := (Bd.out.2 3 _ rfl).1
    have vd4 := (Bd.out.2 4 _ rfl).1
    have vd5 := (Bd.out.2 5 _ rfl).1
    go_wp2_with fail
    clear vdl vd0 vd1 vd2 vd3 vd4 vd5
    replace d1 := Lib.hid (d1.out.alloc (by omega) (.cells #[.slice Ax nx cx, .int .i64 (0), .slice Ax' nx' cx', .int .i64 (0), .slice Ex mx kx, .int .i64 (0)] 27))
    replace d2 := Lib.hid (d2.out.alloc (by omega) (.cells #[.slice Ax nx cx, .int .i64 (0), .slice Ax' nx' cx', .int .i64 (0), .slice Ex mx kx, .int .i64 (0)] 27))
    replace d3 := Lib.hid (d3.out.alloc (by omega) (.cells #[.slice Ax nx cx, .int .i64 (0), .slice Ax' nx' cx', .int .i64 (0), .slice Ex mx kx, .int .i64 (0)] 27))
    replace Bd := Lib.hid (Bd.out.alloc (.cells #[.slice Ax nx cx, .int .i64 (0), .slice Ax' nx' cx', .int .i64 (0), .slice Ex mx kx, .int .i64 (0)] 27))
    replace x1 := Lib.hid (x1.out.alloc (by omega) (.cells #[.slice Ax nx cx, .int .i64 (0), .slice Ax' nx' cx', .int .i64 (0), .slice Ex mx kx, .int .i64 (0)] 27))
    replace x2 := Lib.hid (x2.out.alloc (by omega) (.cells #[.slice Ax nx cx, .int .i64 (0), .slice Ax' nx' cx', .int .i64 (0), .slice Ex mx kx, .int .i64 (0)] 27))
    replace x3 := Lib.hid (x3.out.alloc (by omega) (.cells #[.slice Ax nx cx, .int .i64 (0), .slice Ax' nx' cx', .int .i64 (0), .slice Ex mx kx, .int .i64 (0)] 27))
    replace EB := Lib.hid (EB.out.alloc (by omega) (.cells #[.slice Ax nx cx, .int .i64 (0), .slice Ax' nx' cx', .int .i64 (0), .slice Ex mx kx, .int .i64 (0)] 27))
    have Bx := Lib.hid (Box.new w3 27 [.slice Ax nx cx, .int .i64 (0), .slice Ax' nx' cx', .int .i64 (0), .slice Ex mx kx, .int .i64 (0)])
    have s4 : w3.heap.size + 1 ≤ (w3.alloc (.cells #[.slice Ax nx cx, .int .i64 (0), .slice Ax' nx' cx', .int .i64 (0), .slice Ex mx kx, .int .i64 (0)] 27)).heap.size := by simp
    generalize w3.alloc (.cells #[.slice Ax nx cx, .int .i64 (0), .slice Ax' nx' cx', .int .i64 (0), .slice Ex mx kx, .int .i64 (0)] 27) = w4 at *
    refine (to_rbR (SSeekReader_x d1.out d2.out d3.out (by omega) (by omega) (by omega) hcd hcd' hkd (by omega) (by omega) (by omega) (by unfold okInt; omega) (by unfold okInt; omega)) (rseek_no hok)).mono ?_
    rintro e w5 ⟨Ay, ny, cy, Ay', ny', cy', Ey, my, ky, rfl, ⟨hcy, hcy', hky⟩, hb, hd, hd', hr⟩
    (try simp only [World.size_alloc, World.size_setCell, World.size_drew] at hb)
    have HB := Lib.hid hb
    clear hb
    have s5 := HB.out.size
    (try simp only [World.size_alloc, World.size_setCell, World.size_drew] at s5)
    replace d1 := Lib.hid (d1.out.below HB.out (by omega))
    replace d2 := Lib.hid (d2.out.below HB.out (by omega))
    replace d3 := Lib.hid (d3.out.below HB.out (by omega))
    replace Bd := Lib.hid (Bd.out.below HB.out (by omega))
    replace x1 := Lib.hid (x1.out.below HB.out (by omega))
    replace x2 := Lib.hid (x2.out.below HB.out (by omega))
    replace x3 := Lib.hid (x3.out.below HB.out (by omega))
    replace Bx := Lib.hid (Bx.out.below HB.out (by omega))
    replace EB := Lib.hid (below_step HB.out EB.out (by omega))
    clear HB
    have y1 := Lib.hid hd
    have y2 := Lib.hid hd'
    have y3 := Lib.hid hr
    clear hd hd' hr
    have vxl := Bx.out.lt
    have vx0 := (Bx.out.2 0 _ rfl).1
    have vx1 := (Bx.out.2 1 _ rfl).1
    have vx2 := (Bx.out.2 2 _ rfl).1
    have vx3 := (Bx.out.2 3 _ rfl).1
    have vx4 := (Bx.out.2 4 _ rfl).1
    have vx5 := (Bx.out.2 5 _ rfl).1
    go_wp2_with fail
    clear vxl vx0 vx1 vx2 vx3 vx4 vx5
    replace d1 := Lib.hid (d1.out.alloc (by omega) (.cells #[.slice Ay ny cy, .int .i64 (0), .slice Ay' ny' cy', .int .i64 (0), .slice Ey my ky, .int .i64 (0)] 27))
    replace d2 := Lib.hid (d2.out.alloc (by omega) (.cells #[.slice Ay ny cy, .int .i64 (0), .slice Ay' ny' cy', .int .i64 (0), .slice Ey my ky, .int .i64 (0)] 27))
    replace d3 := Lib.hid (d3.out.alloc (by omega) (.cells #[.slice Ay ny cy, .int .i64 (0), .slice Ay' ny' cy', .int .i64 (0), .slice Ey my ky, .int .i64 (0)] 27))
    replace Bd := Lib.hid (Bd.out.alloc (.cells #[.slice Ay ny cy, .int .i64 (0), .slice Ay' ny' cy', .int .i64 (0), .slice Ey my ky, .int .i64 (0)] 27))
    replace x1 := Lib.hid (x1.out.alloc (by omega) (.cells #[.slice Ay ny cy, .int .i64 (0), .slice Ay' ny' cy', .int .i64 (0), .slice Ey my ky, .int .i64 (0)] 27))
    replace x2 := Lib.hid (x2.out.alloc (by omega) (.cells #[.slice Ay ny cy, .int .i64 (0), .slice Ay' ny' cy', .int .i64 (0), .slice Ey my ky, .int .i64 (0)] 27))
    replace x3 := Lib.hid (x3.out.alloc (by omega) (.cells #[.slice Ay ny cy, .int .i64 (0), .slice Ay' ny' cy', .int .i64 (0), .slice Ey my ky, .int .i64 (0)] 27))
    replace Bx := Lib.hid (Bx.out.alloc (.cells #[.slice Ay ny cy, .int .i64 (0), .slice Ay' ny' cy', .int .i64 (0), .slice Ey my ky, .int .i64 (0)] 27))
    replace y1 := Lib.hid (y1.out.alloc (by omega) (.cells #[.slice Ay ny cy, .int .i64 (0), .slice Ay' ny' cy', .int .i64 (0), .slice Ey my ky, .int .i64 (0)] 27))
    replace y2 := Lib.hid (y2.out.alloc (by omega) (.cells #[.slice Ay ny cy, .int .i64 (0), .slice Ay' ny' cy', .int .i64 (0), .slice Ey my ky, .int .i64 (0)] 27))
    replace y3 := Lib.hid (y3.out.alloc (by omega) (.cells #[.slice Ay ny cy, .int .i64 (0), .slice Ay' ny' cy', .int .i64 (0), .slice Ey my ky, .int .i64 (0)] 27))
    replace EB := Lib.hid (EB.out.alloc (by omega) (.cells #[.slice Ay ny cy, .int .i64 (0), .slice Ay' ny' cy', .int .i64 (0), .slice Ey my ky, .int .i64 (0)] 27))
    have By := Lib.hid (Box.new w5 27 [.slice Ay ny cy, .int .i64 (0), .slice Ay' ny' cy', .int .i64 (0), .slice Ey my ky, .int .i64 (0)])
    have s6 : w5.heap.size + 1 ≤ (w5.alloc (.cells #[.slice Ay ny cy, .int .i64 (0), .slice Ay' ny' cy', .int .i64 (0), .slice Ey my ky, .int .i64 (0)] 27)).heap.size := by simp
    generalize w5.alloc (.cells #[.slice Ay ny cy, .int .i64 (0), .slice Ay' ny' cy', .int .i64 (0), .slice Ey my ky, .int .i64 (0)] 27) = w6 at *
    refine (equalReader_same x1.out x2.out x3.out y1.out y2.out y3.out (by omega) (by omega) (by omega) (by omega) (by omega) (by omega)).mono ?_
    rintro e w7 ⟨rfl, hb⟩
    (try simp only [World.size_alloc, World.size_setCell, World.size_drew] at hb)
    have HB := Lib.hid hb
    clear hb
    have s7 := HB.out.size
    (try simp only [World.size_alloc, World.size_setCell, World.size_drew] at s7)
    replace d1 := Lib.hid (d1.out.below HB.out (by omega))
    replace d2 := Lib.hid (d2.out.below HB.out (by omega))
    replace d3 := Lib.hid (d3.out.below HB.out (by omega))
    replace Bd := Lib.hid (Bd.out.below HB.out (by omega))
    replace x1 := Lib.hid (x1.out.below HB.out (by omega))
    replace x2 := Lib.hid (x2.out.below HB.out (by omega))
    replace x3 := Lib.hid (x3.out.below HB.out (by omega))
    replace Bx := Lib.hid (Bx.out.below HB.out (by omega))
    replace y1 := Lib.hid (y1.out.below HB.out (by omega))
    replace y2 := Lib.hid (y2.out.below HB.out (by omega))
    replace y3 := Lib.hid (y3.out.below HB.out (by omega))
    replace By := Lib.hid (By.out.below HB.out (by omega))
    replace EB := Lib.hid (below_step HB.out EB.out (by omega))
    clear HB
    have vxl := Bx.out.lt
    have vx0 := (Bx.out.2 0 _ rfl).1
    have vx1 := (Bx.out.2 1 _ rfl).1
    have vx2 := (Bx.out.2 2 _ rfl).1
    have vx3 := (Bx.out.2 3 _ rfl).1
    have vx4 := (Bx.out.2 4 _ rfl).1
    have vx5 := (Bx.out.2 5 _ rfl).1
    have vyl := By.out.lt
    have vy0 := (By.out.2 0 _ rfl).1
    have vy1 := (By.out.2 1 _ rfl).1
    have vy2 := (By.out.2 2 _ rfl).1
    have vy3 := (By.out.2 3 _ rfl).1
    have vy4 := (By.out.2 4 _ rfl).1
    have vy5 := (By.out.2 5 _ rfl).1
    go_wp2_with fail
    refine (equalReader_same x1.out x2.out x3.out y1.out y2.out y3.out (by omega) (by omega) (by omega) (by omega) (by omega) (by omega)).mono ?_
    clear vxl vx0 vx1 vx2 vx3 vx4 vx5 vyl vy0 vy1 vy2 vy3 vy4 vy5
    rintro e w8 ⟨rfl, hb⟩
    (try simp only [World.size_alloc, World.size_setCell, World.size_drew] at hb)
    have HB := Lib.hid hb
    clear hb
    have s8 := HB.out.size
    (try simp only [World.size_alloc, World.size_setCell, World.size_drew] at s8)
    replace d1 := Lib.hid (d1.out.below HB.out (by omega))
    replace d2 := Lib.hid (d2.out.below HB.out (by omega))
    replace d3 := Lib.hid (d3.out.below HB.out (by omega))
    replace Bd := Lib.hid (Bd.out.below HB.out (by omega))
    replace x1 := Lib.hid (x1.out.below HB.out (by omega))
    replace x2 := Lib.hid (x2.out.below HB.out (by omega))
    replace x3 := Lib.hid (x3.out.below HB.out (by omega))
    replace Bx := Lib.hid (Bx.out.below HB.out (by omega))
    replace y1 := Lib.hid (y1.out.below HB.out (by omega))
    replace y2 := Lib.hid (y2.out.below HB.out (by omega))
    replace y3 := Lib.hid (y3.out.below HB.out (by omega))
    replace By := Lib.hid (By.out.below HB.out (by omega))
    replace EB := Lib.hid (below_step HB.out EB.out (by omega))
    clear HB
    go_wp2
    go_ret
    exact ⟨rfl, EB.out⟩
  · obtain ⟨t, T, P, R1, ho, htd, had, hvx, htx, hax, hr1, hT60, hnp⟩ := rseek_yes hok
    clear hok had
    have HO := Lib.hid ho
    have TD := Lib.hid htd
    have VX := Lib.hid hvx
    have TX := Lib.hid htx
    have AX := Lib.hid hax
    have R1L := Lib.hid hr1
    have HNP := Lib.hid hnp
    clear ho htd hvx htx hax hr1 hnp
    rcases Nat.lt_or_ge T t with hTt | hTt
    · have hTi : ¬ (t : Int) ≤ (T : Int) := by omega
      have hTn : ¬ t ≤ T := by omega
      clear HNP
      by_cases hm : nd < T
      · refine (to_rbR (SeekReader_x d1.out d2.out d3.out (by omega) (by omega) (by omega) hcd hcd' hkd (by omega) (by omega) (by omega) (by unfold okInt; omega) (by unfold okInt; omega)) HO.out).mono ?_
        rintro e w3 ⟨Ax, nx, cx, Ax', nx', cx', Ex, mx, kx, rfl, ⟨hcx, hcx', hkx⟩, hb, hd, hd', hr⟩
        (try simp only [World.size_alloc, World.size_setCell, World.size_drew] at hb)
        have HB := Lib.hid hb
        clear hb
        have s3 := HB.out.size
        (try simp only [World.size_alloc, World.size_setCell, World.size_drew] at s3)
        replace d1 := Lib.hid (d1.out.below HB.out (by omega))
        replace d2 := Lib.hid (d2.out.below HB.out (by omega))
        replace d3 := Lib.hid (d3.out.below HB.out (by omega))
        replace Bd := Lib.hid (Bd.out.below HB.out (by omega))
        replace EB := Lib.hid (below_step HB.out EB.out (by omega))
        clear HB
        have x1 := Lib.hid hd
        have x2 := Lib.hid hd'
        have x3 := Lib.hid hr
        clear hd hd' hr
        have vdl := Bd.out.lt
        have vd0 := (Bd.out.2 0 _ rfl).1
        have vd1 := (Bd.out.2 1 _ rfl).1
        have vd2 := (Bd.out.2 2 _ rfl).1
        have vd3 := (Bd.out.2 3 _ rfl).1
        have vd4 := (Bd.out.2 4 _ rfl).1
        have vd5 := (Bd.out.2 5 _ rfl).1
        go_wp2_with fail
        clear vdl vd0 vd1 vd2 vd3 vd4 vd5
        replace d1 := Lib.hid (d1.out.alloc (by omega) (.cells #[.slice Ax nx cx, .int .i64 (P), .slice Ax' nx' cx', .int .i64 (qd), .slice Ex mx kx, .int .i64 (yd)] 27))
        replace d2 := Lib.hid (d2.out.alloc (by omega) (.cells #[.slice Ax nx cx, .int .i64 (P), .slice Ax' nx' cx', .int .i64 (qd), .slice Ex mx kx, .int .i64 (yd)] 27))
        replace d3 := Lib.hid (d3.out.alloc (by omega) (.cells #[.slice Ax nx cx, .int .i64 (P), .slice Ax' nx' cx', .int .i64 (qd), .slice Ex mx kx, .int .i64 (yd)] 27))
        replace Bd := Lib.hid (Bd.out.alloc (.cells #[.slice Ax nx cx, .int .i64 (P), .slice Ax' nx' cx', .int .i64 (qd), .slice Ex mx kx, .int .i64 (yd)] 27))
        replace x1 := Lib.hid (x1.out.alloc (by omega) (.cells #[.slice Ax nx cx, .int .i64 (P), .slice Ax' nx' cx', .int .i64 (qd), .slice Ex mx kx, .int .i64 (yd)] 27))
        replace x2 := Lib.hid (x2.out.alloc (by omega) (.cells #[.slice Ax nx cx, .int .i64 (P), .slice Ax' nx' cx', .int .i64 (qd), .slice Ex mx kx, .int .i64 (yd)] 27))
        replace x3 := Lib.hid (x3.out.alloc (by omega) (.cells #[.slice Ax nx cx, .int .i64 (P), .slice Ax' nx' cx', .int .i64 (qd), .slice Ex mx kx, .int .i64 (yd)] 27))
        replace EB := Lib.hid (EB.out.alloc (by omega) (.cells #[.slice Ax nx cx, .int .i64 (P), .slice Ax' nx' cx', .int .i64 (qd), .slice Ex mx kx, .int .i64 (yd)] 27))
        have Bx := Lib.hid (Box.new w3 27 [.slice Ax nx cx, .int .i64 (P), .slice Ax' nx' cx', .int .i64 (qd), .slice Ex mx kx, .int .i64 (yd)])
        have s4 : w3.heap.size + 1 ≤ (w3.alloc (.cells #[.slice Ax nx cx, .int .i64 (P), .slice Ax' nx' cx', .int .i64 (qd), .slice Ex mx kx, .int .i64 (yd)] 27)).heap.size := by simp
        generalize w3.alloc (.cells #[.slice Ax nx cx, .int .i64 (P), .slice Ax' nx' cx', .int .i64 (qd), .slice Ex mx kx, .int .i64 (yd)] 27) = w4 at *
        refine (to_rbR (SSeekReader_x d1.out d2.out d3.out (by omega) (by omega) (by omega) hcd hcd' hkd (by omega) (by omega) (by omega) (by unfold okInt; omega) (by unfold okInt; omega)) HO.out).mono ?_
        rintro e w5 ⟨Ay, ny, cy, Ay', ny', cy', Ey, my, ky, rfl, ⟨hcy, hcy', hky⟩, hb, hd, hd', hr⟩
        (try simp only [World.size_alloc, World.size_setCell, World.size_drew] at hb)
        have HB := Lib.hid hb
        clear hb
        have s5 := HB.out.size
        (try simp only [World.size_alloc, World.size_setCell, World.size_drew] at s5)
        replace d1 := Lib.hid (d1.out.below HB.out (by omega))
        replace d2 := Lib.hid (d2.out.below HB.out (by omega))
        replace d3 := Lib.hid (d3.out.below HB.out (by omega))
        replace Bd := Lib.hid (Bd.out.below HB.out (by omega))
        replace x1 := Lib.hid (x1.out.below HB.out (by omega))
        replace x2 := Lib.hid (x2.out.below HB.out (by omega))
        replace x3 := Lib.hid (x3.out.below HB.out (by omega))
        replace Bx := Lib.hid (Bx.out.below HB.out (by omega))
        replace EB := Lib.hid (below_step HB.out EB.out (by omega))
        clear HB
        have y1 := Lib.hid hd
        have y2 := Lib.hid hd'
        have y3 := Lib.hid hr
        clear hd hd' hr
        have vxl := Bx.out.lt
        have vx0 := (Bx.out.2 0 _ rfl).1
        have vx1 := (Bx.out.2 1 _ rfl).1
        have vx2 := (Bx.out.2 2 _ rfl).1
        have vx3 := (Bx.out.2 3 _ rfl).1
        have vx4 := (Bx.out.2 4 _ rfl).1
        have vx5 := (Bx.out.2 5 _ rfl).1
        go_wp2_with fail
        clear vxl vx0 vx1 vx2 vx3 vx4 vx5
        replace d1 := Lib.hid (d1.out.alloc (by omega) (.cells #[.slice Ay ny cy, .int .i64 (P), .slice Ay' ny' cy', .int .i64 (qd), .slice Ey my ky, .int .i64 (yd)] 27))
        replace d2 := Lib.hid (d2.out.alloc (by omega) (.cells #[.slice Ay ny cy, .int .i64 (P), .slice Ay' ny' cy', .int .i64 (qd), .slice Ey my ky, .int .i64 (yd)] 27))
        replace d3 := Lib.hid (d3.out.alloc (by omega) (.cells #[.slice Ay ny cy, .int .i64 (P), .slice Ay' ny' cy', .int .i64 (qd), .slice Ey my ky, .int .i64 (yd)] 27))
        replace Bd := Lib.hid (Bd.out.alloc (.cells #[.slice Ay ny cy, .int .i64 (P), .slice Ay' ny' cy', .int .i64 (qd), .slice Ey my ky, .int .i64 (yd)] 27))
        replace x1 := Lib.hid (x1.out.alloc (by omega) (.cells #[.slice Ay ny cy, .int .i64 (P), .slice Ay' ny' cy', .int .i64 (qd), .slice Ey my ky, .int .i64 (yd)] 27))
        replace x2 := Lib.hid (x2.out.alloc (by omega) (.cells #[.slice Ay ny cy, .int .i64 (P), .slice Ay' ny' cy', .int .i64 (qd), .slice Ey my ky, .int .i64 (yd)] 27))
        replace x3 := Lib.hid (x3.out.alloc (by omega) (.cells #[.slice Ay ny cy, .int .i64 (P), .slice Ay' ny' cy', .int .i64 (qd), .slice Ey my ky, .int .i64 (yd)] 27))
        replace Bx := Lib.hid (Bx.out.alloc (.cells #[.slice Ay ny cy, .int .i64 (P), .slice Ay' ny' cy', .int .i64 (qd), .slice Ey my ky, .int .i64 (yd)] 27))
        replace y1 := Lib.hid (y1.out.alloc (by omega) (.cells #[.slice Ay ny cy, .int .i64 (P), .slice Ay' ny' cy', .int .i64 (qd), .slice Ey my ky, .int .i64 (yd)] 27))
        replace y2 := Lib.hid (y2.out.alloc (by omega) (.cells #[.slice Ay ny cy, .int .i64 (P), .slice Ay' ny' cy', .int .i64 (qd), .slice Ey my ky, .int .i64 (yd)] 27))
        replace y3 := Lib.hid (y3.out.alloc (by omega) (.cells #[.slice Ay ny cy, .int .i64 (P), .slice Ay' ny' cy', .int .i64 (qd), .slice Ey my ky, .int .i64 (yd)] 27))
        replace EB := Lib.hid (EB.out.alloc (by omega) (.cells #[.slice Ay ny cy, .int .i64 (P), .slice Ay' ny' cy', .int .i64 (qd), .slice Ey my ky, .int .i64 (yd)] 27))
        have By := Lib.hid (Box.new w5 27 [.slice Ay ny cy, .int .i64 (P), .slice Ay' ny' cy', .int .i64 (qd), .slice Ey my ky, .int .i64 (yd)])
        have s6 : w5.heap.size + 1 ≤ (w5.alloc (.cells #[.slice Ay ny cy, .int .i64 (P), .slice Ay' ny' cy', .int .i64 (qd), .slice Ey my ky, .int .i64 (yd)] 27)).heap.size := by simp
        generalize w5.alloc (.cells #[.slice Ay ny cy, .int .i64 (P), .slice Ay' ny' cy', .int .i64 (qd), .slice Ey my ky, .int .i64 (yd)] 27) = w6 at *
        refine (equalReader_same x1.out x2.out x3.out y1.out y2.out y3.out (by omega) (by omega) (by omega) (by omega) (by omega) (by omega)).mono ?_
        rintro e w7 ⟨rfl, hb⟩
        (try simp only [World.size_alloc, World.size_setCell, World.size_drew] at hb)
        have HB := Lib.hid hb
        clear hb
        have s7 := HB.out.size
        (try simp only [World.size_alloc, World.size_setCell, World.size_drew] at s7)
        replace d1 := Lib.hid (d1.out.below HB.out (by omega))
        replace d2 := Lib.hid (d2.out.below HB.out (by omega))
        replace d3 := Lib.hid (d3.out.below HB.out (by omega))
        replace Bd := Lib.hid (Bd.out.below HB.out (by omega))
        replace x1 := Lib.hid (x1.out.below HB.out (by omega))
        replace x2 := Lib.hid (x2.out.below HB.out (by omega))
        replace x3 := Lib.hid (x3.out.below HB.out (by omega))
        replace Bx := Lib.hid (Bx.out.below HB.out (by omega))
        replace y1 := Lib.hid (y1.out.below HB.out (by omega))
        replace y2 := Lib.hid (y2.out.below HB.out (by omega))
        replace y3 := Lib.hid (y3.out.below HB.out (by omega))
        replace By := Lib.hid (By.out.below HB.out (by omega))
        replace EB := Lib.hid (below_step HB.out EB.out (by omega))
        clear HB
        have hmx : mx ≤ 16 := by rw [x3.out.len]; exact R1L.out
        have vxl := Bx.out.lt
        have vx0 := (Bx.out.2 0 _ rfl).1
        have vx1 := (Bx.out.2 1 _ rfl).1
        have vx2 := (Bx.out.2 2 _ rfl).1
        have vx3 := (Bx.out.2 3 _ rfl).1
        have vx4 := (Bx.out.2 4 _ rfl).1
        have vx5 := (Bx.out.2 5 _ rfl).1
        go_wp2_with fail
        refine (to_intN (TellReader_x x1.out x2.out x3.out (by omega) (by omega) (by omega) hcx) TX.out).mono ?_
        clear vxl vx0 vx1 vx2 vx3 vx4 vx5
        rintro e w8 ⟨rfl, hb⟩
        (try simp only [World.size_alloc, World.size_setCell, World.size_drew] at hb)
        have HB := Lib.hid hb
        clear hb
        have s8 := HB.out.size
        (try simp only [World.size_alloc, World.size_setCell, World.size_drew] at s8)
        replace d1 := Lib.hid (d1.out.below HB.out (by omega))
        replace d2 := Lib.hid (d2.out.below HB.out (by omega))
        replace d3 := Lib.hid (d3.out.below HB.out (by omega))
        replace Bd := Lib.hid (Bd.out.below HB.out (by omega))
        replace x1 := Lib.hid (x1.out.below HB.out (by omega))
        replace x2 := Lib.hid (x2.out.below HB.out (by omega))
        replace x3 := Lib.hid (x3.out.below HB.out (by omega))
        replace Bx := Lib.hid (Bx.out.below HB.out (by omega))
        replace y1 := Lib.hid (y1.out.below HB.out (by omega))
        replace y2 := Lib.hid (y2.out.below HB.out (by omega))
        replace y3 := Lib.hid (y3.out.below HB.out (by omega))
        replace By := Lib.hid (By.out.below HB.out (by omega))
        replace EB := Lib.hid (below_step HB.out EB.out (by omega))
        clear HB
        have vdl := Bd.out.lt
        have vd0 := (Bd.out.2 0 _ rfl).1
        have vd1 := (Bd.out.2 1 _ rfl).1
        have vd2 := (Bd.out.2 2 _ rfl).1
        have vd3 := (Bd.out.2 3 _ rfl).1
        have vd4 := (Bd.out.2 4 _ rfl).1
        have vd5 := (Bd.out.2 5 _ rfl).1
        go_wp2_with fail
        refine (to_intN (TellReader_x d1.out d2.out d3.out (by omega) (by omega) (by omega) hcd) TD.out).mono ?_
        clear vdl vd0 vd1 vd2 vd3 vd4 vd5
        rintro e w9 ⟨rfl, hb⟩
        (try simp only [World.size_alloc, World.size_setCell, World.size_drew] at hb)
        have HB := Lib.hid hb
        clear hb
        have s9 := HB.out.size
        (try simp only [World.size_alloc, World.size_setCell, World.size_drew] at s9)
        replace d1 := Lib.hid (d1.out.below HB.out (by omega))
        replace d2 := Lib.hid (d2.out.below HB.out (by omega))
        replace d3 := Lib.hid (d3.out.below HB.out (by omega))
        replace Bd := Lib.hid (Bd.out.below HB.out (by omega))
        replace x1 := Lib.hid (x1.out.below HB.out (by omega))
        replace x2 := Lib.hid (x2.out.below HB.out (by omega))
        replace x3 := Lib.hid (x3.out.below HB.out (by omega))
        replace Bx := Lib.hid (Bx.out.below HB.out (by omega))
        replace y1 := Lib.hid (y1.out.below HB.out (by omega))
        replace y2 := Lib.hid (y2.out.below HB.out (by omega))
        replace y3 := Lib.hid (y3.out.below HB.out (by omega))
        replace By := Lib.hid (By.out.below HB.out (by omega))
        replace EB := Lib.hid (below_step HB.out EB.out (by omega))
        clear HB
        have hnt : nd ≤ nd := by omega
        have hnti : ((nd : Nat) : Int) ≤ (nd : Int) := by omega
        have hntc : ((nd : Nat) : Int) ≤ (cd : Int) := by omega
        have HDR : Hid (Dd.drop T = Dd.drop nd) := by show _ = _; have := d1.out.len; rw [List.drop_of_length_le (by omega), List.drop_of_length_le (by omega)]
        have vxl := Bx.out.lt
        have vx0 := (Bx.out.2 0 _ rfl).1
        have vx1 := (Bx.out.2 1 _ rfl).1
        have vx2 := (Bx.out.2 2 _ rfl).1
        have vx3 := (Bx.out.2 3 _ rfl).1
        have vx4 := (Bx.out.2 4 _ rfl).1
        have vx5 := (Bx.out.2 5 _ rfl).1
        have vdl := Bd.out.lt
        have vd0 := (Bd.out.2 0 _ rfl).1
        have vd1 := (Bd.out.2 1 _ rfl).1
        have vd2 := (Bd.out.2 2 _ rfl).1
        have vd3 := (Bd.out.2 3 _ rfl).1
        have vd4 := (Bd.out.2 4 _ rfl).1
        have vd5 := (Bd.out.2 5 _ rfl).1
        go_wp2_with fail
        refine wp_region_held_drew (S := (fun w' => (w'.cell? ⟨w3.heap.size, 0, none⟩ = some (.slice Ax nx cx) ∧ w'.cell? ⟨w3.heap.size, 1, none⟩ = some (.int .i64 (P)) ∧ w'.cell? ⟨w3.heap.size, 2, none⟩ = some (.slice Ax' nx' cx') ∧ w'.cell? ⟨w3.heap.size, 3, none⟩ = some (.int .i64 (qd)) ∧ w'.cell? ⟨w3.heap.size, 4, none⟩ = some (.slice Ex mx kx) ∧ w'.cell? ⟨w3.heap.size, 5, none⟩ = some (.int .i64 (yd))) ∧ (w'.cell? ⟨w1.heap.size, 0, none⟩ = some (.slice Ad nd cd) ∧ w'.cell? ⟨w1.heap.size, 1, none⟩ = some (.int .i64 (pd)) ∧ w'.cell? ⟨w1.heap.size, 2, none⟩ = some (.slice Ad' nd' cd') ∧ w'.cell? ⟨w1.heap.size, 3, none⟩ = some (.int .i64 (qd)) ∧ w'.cell? ⟨w1.heap.size, 4, none⟩ = some (.slice Ed md kd) ∧ w'.cell? ⟨w1.heap.size, 5, none⟩ = some (.int .i64 (yd))))) (by kernel_rfl) (by (try dsimp only); go_keep) (fun hHeld => ?_)
        refine wpAnyH_take (i := 0) (oi := ?oi1) (v := ?v1) ?hi1 (by kernel_rfl) (by kernel_rfl) (by kernel_rfl) ?hq1 (Or.inl ⟨?hw1, ?hy1⟩) (by assumption) ?_
        case hi1 => simp only [List.getElem?_toArray, List.getElem?_cons_succ, List.getElem?_cons_zero]; rfl
        case hw1 => rfl
        case hq1 => exact fun _ _ _ h => h
        case hy1 => intro w hSw; (try dsimp only at hSw); go_simp; (try with_reducible rfl)
        (try simp only [Act.put, List.setIfInBounds_toArray, List.set_cons_zero, List.set_cons_succ])
        refine wpAnyH_take (i := 2) (oi := ?oi2) (v := ?v2) ?hi2 (by kernel_rfl) (by kernel_rfl) (by kernel_rfl) ?hq2 (Or.inl ⟨?hw2, ?hy2⟩) (by assumption) ?_
        case hi2 => simp only [List.getElem?_toArray, List.getElem?_cons_succ, List.getElem?_cons_zero]; rfl
        case hw2 => rfl
        case hq2 => exact fun _ _ _ h => h
        case hy2 => intro w hSw; (try dsimp only at hSw); go_simp; (try with_reducible rfl)
        (try simp only [Act.put, List.setIfInBounds_toArray, List.set_cons_zero, List.set_cons_succ])
        refine wpAnyH_take (i := 3) (oi := ?oi3) (v := ?v3) ?hi3 (by kernel_rfl) (by kernel_rfl) (by kernel_rfl) ?hq3 (Or.inl ⟨?hw3, ?hy3⟩) (by assumption) ?_
        case hi3 => simp only [List.getElem?_toArray, List.getElem?_cons_succ, List.getElem?_cons_zero]; rfl
        case hw3 => rfl
        case hq3 => exact fun _ _ _ h => h
        case hy3 => intro w hSw; (try dsimp only at hSw); go_simp; (try with_reducible rfl)
        (try simp only [Act.put, List.setIfInBounds_toArray, List.set_cons_zero, List.set_cons_succ])
        refine wpAnyH_take (i := 4) (oi := ?oi4) (v := ?v4) ?hi4 (by kernel_rfl) (by kernel_rfl) (by kernel_rfl) ?hq4 (Or.inl ⟨?hw4, ?hy4⟩) (by assumption) ?_
        case hi4 => simp only [List.getElem?_toArray, List.getElem?_cons_succ, List.getElem?_cons_zero]; rfl
        case hw4 => rfl
        case hq4 => exact fun _ _ _ h => h
        case hy4 => intro w hSw; (try dsimp only at hSw); go_simp; (try with_reducible rfl)
        (try simp only [Act.put, List.setIfInBounds_toArray, List.set_cons_zero, List.set_cons_succ])
        refine wpAnyH_take (i := 5) (oi := ?oi5) (v := ?v5) ?hi5 (by kernel_rfl) (by kernel_rfl) (by kernel_rfl) ?hq5 (Or.inl ⟨?hw5, ?hy5⟩) (by assumption) ?_
        case hi5 => simp only [List.getElem?_toArray, List.getElem?_cons_succ, List.getElem?_cons_zero]; rfl
        case hw5 => rfl
        case hq5 => exact fun _ _ _ h => h
        case hy5 => intro w hSw; (try dsimp only at hSw); go_simp; (try with_reducible rfl)
        (try simp only [Act.put, List.setIfInBounds_toArray, List.set_cons_zero, List.set_cons_succ])
        refine wpAnyH_take (i := 6) (oi := ?oi6) (v := ?v6) ?hi6 (by kernel_rfl) (by kernel_rfl) (by kernel_rfl) ?hq6 (Or.inl ⟨?hw6, ?hy6⟩) (by assumption) ?_
        case hi6 => simp only [List.getElem?_toArray, List.getElem?_cons_succ, List.getElem?_cons_zero]; rfl
        case hw6 => rfl
        case hq6 => exact fun _ _ _ h => h
        case hy6 => intro w hSw; (try dsimp only at hSw); go_simp; (try with_reducible rfl)
        (try simp only [Act.put, List.setIfInBounds_toArray, List.set_cons_zero, List.set_cons_succ])
        refine wpAnyH_ready (rs := [1]) (by kernel_rfl) (by simp) ?_
        refine AllReadyH.cons (o := ?o7) ?ho7 (fun K hK => ?_) AllReadyH.nil
        case ho7 => simp only [List.getElem?_toArray, List.getElem?_cons_succ, List.getElem?_cons_zero]; rfl
        go_simp
        (go_at_call 15; (with_reducible refine (to_listN (ahead_any x1.out.drew x2.out.drew x3.out.drew (by first | omega | (simp; omega) | (simp; done)) (by first | omega | (simp; omega) | (simp; done)) (by first | omega | (simp; omega) | (simp; done)) hcx (by first | omega | (simp; omega) | (simp; done))) AX.out).mono ?_); rintro e wg10 ⟨As, ns, cs, rfl, hcs, hb, hl⟩; (try simp only [World.size_alloc, World.size_setCell, World.size_drew] at hb hl); have HRg10 := Lib.hid hb; have srg10 := hb.size; (try simp only [World.size_alloc, World.size_setCell, World.size_drew] at srg10); have Yxg10 := Lib.hid (Bx.out.drew.below hb (by omega)); have Ydg10 := Lib.hid (Bd.out.drew.below hb (by omega)); have s1 := Lib.hid hl; clear hb hl; have vx0 := (Yxg10.out.2 0 _ rfl).1; have vx1 := (Yxg10.out.2 1 _ rfl).1; have vx2 := (Yxg10.out.2 2 _ rfl).1; have vx3 := (Yxg10.out.2 3 _ rfl).1; have vx4 := (Yxg10.out.2 4 _ rfl).1; have vx5 := (Yxg10.out.2 5 _ rfl).1; have vd0 := (Ydg10.out.2 0 _ rfl).1; have vd1 := (Ydg10.out.2 1 _ rfl).1; have vd2 := (Ydg10.out.2 2 _ rfl).1; have vd3 := (Ydg10.out.2 3 _ rfl).1; have vd4 := (Ydg10.out.2 4 _ rfl).1; have vd5 := (Ydg10.out.2 5 _ rfl).1)
        clear hHeld
        refine hK.out _ _ (by (try dsimp only); go_keep) (fun hHeld => ?_)
        clear hK K
        (try simp only [Act.put, List.setIfInBounds_toArray, List.set_cons_zero, List.set_cons_succ])
        refine wpAnyH_ready (rs := [7]) (by kernel_rfl) (by simp) ?_
        refine AllReadyH.cons (o := ?o8) ?ho8 (fun K hK => ?_) AllReadyH.nil
        case ho8 => simp only [List.getElem?_toArray, List.getElem?_cons_succ, List.getElem?_cons_zero]; rfl
        go_simp
        (go_at_call 13; (have hcut := Ints.cutIf ((d1.out.drew.below HRg10.out (by first | omega | (simp; omega) | (simp; done)))) hnt hcd; rw [Nat.sub_self] at hcut; generalize (if cd = nd then Ad else Option.map (fun x => x.add nd) Ad) = Aw at hcut ⊢); (with_reducible refine (equalInts_same s1.out hcut HDR.out).mono ?_); rintro e wg11 ⟨rfl, hb⟩; (try simp only [World.size_alloc, World.size_setCell, World.size_drew] at hb); have HRg11 := Lib.hid hb; have srg11 := hb.size; (try simp only [World.size_alloc, World.size_setCell, World.size_drew] at srg11); have Yxg11 := Lib.hid (Yxg10.out.below hb (by omega)); have Ydg11 := Lib.hid (Ydg10.out.below hb (by omega)); clear hb; have vx0 := (Yxg11.out.2 0 _ rfl).1; have vx1 := (Yxg11.out.2 1 _ rfl).1; have vx2 := (Yxg11.out.2 2 _ rfl).1; have vx3 := (Yxg11.out.2 3 _ rfl).1; have vx4 := (Yxg11.out.2 4 _ rfl).1; have vx5 := (Yxg11.out.2 5 _ rfl).1; have vd0 := (Ydg11.out.2 0 _ rfl).1; have vd1 := (Ydg11.out.2 1 _ rfl).1; have vd2 := (Ydg11.out.2 2 _ rfl).1; have vd3 := (Ydg11.out.2 3 _ rfl).1; have vd4 := (Ydg11.out.2 4 _ rfl).1; have vd5 := (Ydg11.out.2 5 _ rfl).1)
        clear hHeld
        refine hK.out _ _ (by (try dsimp only); go_keep) (fun hHeld => ?_)
        clear hK K
        (try simp only [Act.put, List.setIfInBounds_toArray, List.set_cons_zero, List.set_cons_succ])
        refine wpAnyH_take (i := 8) (oi := ?oi9) (v := ?v9) ?hi9 (by kernel_rfl) (by kernel_rfl) (by kernel_rfl) ?hq9 (Or.inl ⟨?hw9, ?hy9⟩) (by assumption) ?_
        case hi9 => simp only [List.getElem?_toArray, List.getElem?_cons_succ, List.getElem?_cons_zero]; rfl
        case hw9 => rfl
        case hq9 => exact fun _ _ _ h => h
        case hy9 => intro w hSw; (try dsimp only at hSw); go_simp; (try with_reducible rfl)
        (try simp only [Act.put, List.setIfInBounds_toArray, List.set_cons_zero, List.set_cons_succ])
        refine wpAnyH_take (i := 9) (oi := ?oi10) (v := ?v10) ?hi10 (by kernel_rfl) (by kernel_rfl) (by kernel_rfl) ?hq10 (Or.inl ⟨?hw10, ?hy10⟩) (by assumption) ?_
        case hi10 => simp only [List.getElem?_toArray, List.getElem?_cons_succ, List.getElem?_cons_zero]; rfl
        case hw10 => rfl
        case hq10 => exact fun _ _ _ h => h
        case hy10 => intro w hSw; (try dsimp only at hSw); go_simp; (try with_reducible rfl)
        (try simp only [Act.put, List.setIfInBounds_toArray, List.set_cons_zero, List.set_cons_succ])
        refine wpAnyH_take (i := 10) (oi := ?oi11) (v := ?v11) ?hi11 (by kernel_rfl) (by kernel_rfl) (by kernel_rfl) ?hq11 (Or.inl ⟨?hw11, ?hy11⟩) (by assumption) ?_
        case hi11 => simp only [List.getElem?_toArray, List.getElem?_cons_succ, List.getElem?_cons_zero]; rfl
        case hw11 => rfl
        case hq11 => exact fun _ _ _ h => h
        case hy11 => intro w hSw; (try dsimp only at hSw); go_simp; (try with_reducible rfl)
        (try simp only [Act.put, List.setIfInBounds_toArray, List.set_cons_zero, List.set_cons_succ])
        refine wpAnyH_take (i := 11) (oi := ?oi12) (v := ?v12) ?hi12 (by kernel_rfl) (by kernel_rfl) (by kernel_rfl) ?hq12 (Or.inl ⟨?hw12, ?hy12⟩) (by assumption) ?_
        case hi12 => simp only [List.getElem?_toArray, List.getElem?_cons_succ, List.getElem?_cons_zero]; rfl
        case hw12 => rfl
        case hq12 => exact fun _ _ _ h => h
        case hy12 => intro w hSw; (try dsimp only at hSw); go_simp; (try with_reducible rfl)
        (try simp only [Act.put, List.setIfInBounds_toArray, List.set_cons_zero, List.set_cons_succ])
        refine wpAnyH_take (i := 12) (oi := ?oi13) (v := undef) ?hi13 (by kernel_rfl) (by kernel_rfl) (by kernel_rfl) ?hq13 (Or.inr ⟨?hw13, rfl⟩) (by assumption) ?_
        case hi13 => simp only [List.getElem?_toArray, List.getElem?_cons_succ, List.getElem?_cons_zero]; rfl
        case hw13 => rfl
        case hq13 => exact fun _ _ _ h => h
        (try simp only [Act.put, List.setIfInBounds_toArray, List.set_cons_zero, List.set_cons_succ])
        refine wpAnyH_take (i := 13) (oi := ?oi14) (v := undef) ?hi14 (by kernel_rfl) (by kernel_rfl) (by kernel_rfl) ?hq14 (Or.inr ⟨?hw14, rfl⟩) (by assumption) ?_
        case hi14 => simp only [List.getElem?_toArray, List.getElem?_cons_succ, List.getElem?_cons_zero]; rfl
        case hw14 => rfl
        case hq14 => exact fun _ _ _ h => h
        (try simp only [Act.put, List.setIfInBounds_toArray, List.set_cons_zero, List.set_cons_succ])
        refine wpAnyH_take (i := 14) (oi := ?oi15) (v := undef) ?hi15 (by kernel_rfl) (by kernel_rfl) (by kernel_rfl) ?hq15 (Or.inr ⟨?hw15, rfl⟩) (by assumption) ?_
        case hi15 => simp only [List.getElem?_toArray, List.getElem?_cons_succ, List.getElem?_cons_zero]; rfl
        case hw15 => rfl
        case hq15 => exact fun _ _ _ h => h
        (try simp only [Act.put, List.setIfInBounds_toArray, List.set_cons_zero, List.set_cons_succ])
        refine wpAnyH_take (i := 15) (oi := ?oi16) (v := undef) ?hi16 (by kernel_rfl) (by kernel_rfl) (by kernel_rfl) ?hq16 (Or.inr ⟨?hw16, rfl⟩) (by assumption) ?_
        case hi16 => simp only [List.getElem?_toArray, List.getElem?_cons_succ, List.getElem?_cons_zero]; rfl
        case hw16 => rfl
        case hq16 => exact fun _ _ _ h => h
        (try simp only [Act.put, List.setIfInBounds_toArray, List.set_cons_zero, List.set_cons_succ])
        refine wpAnyH_take (i := 16) (oi := ?oi17) (v := undef) ?hi17 (by kernel_rfl) (by kernel_rfl) (by kernel_rfl) ?hq17 (Or.inr ⟨?hw17, rfl⟩) (by assumption) ?_
        case hi17 => simp only [List.getElem?_toArray, List.getElem?_cons_succ, List.getElem?_cons_zero]; rfl
        case hw17 => rfl
        case hq17 => exact fun _ _ _ h => h
        (try simp only [Act.put, List.setIfInBounds_toArray, List.set_cons_zero, List.set_cons_succ])
        refine wpAnyH_take (i := 17) (oi := ?oi18) (v := undef) ?hi18 (by kernel_rfl) (by kernel_rfl) (by kernel_rfl) ?hq18 (Or.inr ⟨?hw18, rfl⟩) (by assumption) ?_
        case hi18 => simp only [List.getElem?_toArray, List.getElem?_cons_succ, List.getElem?_cons_zero]; rfl
        case hw18 => rfl
        case hq18 => exact fun _ _ _ h => h
        (try simp only [Act.put, List.setIfInBounds_toArray, List.set_cons_zero, List.set_cons_succ])
        refine wpAnyH_take (i := 18) (oi := ?oi19) (v := undef) ?hi19 (by kernel_rfl) (by kernel_rfl) (by kernel_rfl) ?hq19 (Or.inr ⟨?hw19, rfl⟩) (by assumption) ?_
        case hi19 => simp only [List.getElem?_toArray, List.getElem?_cons_succ, List.getElem?_cons_zero]; rfl
        case hw19 => rfl
        case hq19 => exact fun _ _ _ h => h
        (try simp only [Act.put, List.setIfInBounds_toArray, List.set_cons_zero, List.set_cons_succ])
        refine wpAnyH_take (i := 19) (oi := ?oi20) (v := ?v20) ?hi20 (by kernel_rfl) (by kernel_rfl) (by kernel_rfl) ?hq20 (Or.inl ⟨?hw20, ?hy20⟩) (by assumption) ?_
        case hi20 => simp only [List.getElem?_toArray, List.getElem?_cons_succ, List.getElem?_cons_zero]; rfl
        case hw20 => rfl
        case hq20 => exact fun _ _ _ h => h
        case hy20 => intro w hSw; (try dsimp only at hSw); go_simp; (try with_reducible rfl)
        (try simp only [Act.put, List.setIfInBounds_toArray, List.set_cons_zero, List.set_cons_succ])
        refine wpAnyH_take (i := 20) (oi := ?oi21) (v := ?v21) ?hi21 (by kernel_rfl) (by kernel_rfl) (by kernel_rfl) ?hq21 (Or.inl ⟨?hw21, ?hy21⟩) (by assumption) ?_
        case hi21 => simp only [List.getElem?_toArray, List.getElem?_cons_succ, List.getElem?_cons_zero]; rfl
        case hw21 => rfl
        case hq21 => exact fun _ _ _ h => h
        case hy21 => intro w hSw; (try dsimp only at hSw); go_simp; (try with_reducible rfl)
        (try simp only [Act.put, List.setIfInBounds_toArray, List.set_cons_zero, List.set_cons_succ])
        refine wpAnyH_take (i := 21) (oi := ?oi22) (v := ?v22) ?hi22 (by kernel_rfl) (by kernel_rfl) (by kernel_rfl) ?hq22 (Or.inl ⟨?hw22, ?hy22⟩) (by assumption) ?_
        case hi22 => simp only [List.getElem?_toArray, List.getElem?_cons_succ, List.getElem?_cons_zero]; rfl
        case hw22 => rfl
        case hq22 => exact fun _ _ _ h => h
        case hy22 => intro w hSw; (try dsimp only at hSw); go_simp; (try with_reducible rfl)
        (try simp only [Act.put, List.setIfInBounds_toArray, List.set_cons_zero, List.set_cons_succ])
        refine wpAnyH_take (i := 22) (oi := ?oi23) (v := ?v23) ?hi23 (by kernel_rfl) (by kernel_rfl) (by kernel_rfl) ?hq23 (Or.inl ⟨?hw23, ?hy23⟩) (by assumption) ?_
        case hi23 => simp only [List.getElem?_toArray, List.getElem?_cons_succ, List.getElem?_cons_zero]; rfl
        case hw23 => rfl
        case hq23 => exact fun _ _ _ h => h
        case hy23 => intro w hSw; (try dsimp only at hSw); go_simp; (try with_reducible rfl)
        (try simp only [Act.put, List.setIfInBounds_toArray, List.set_cons_zero, List.set_cons_succ])
        refine wpAnyH_take (i := 23) (oi := ?oi24) (v := ?v24) ?hi24 (by kernel_rfl) (by kernel_rfl) (by kernel_rfl) ?hq24 (Or.inl ⟨?hw24, ?hy24⟩) (by assumption) ?_
        case hi24 => simp only [List.getElem?_toArray, List.getElem?_cons_succ, List.getElem?_cons_zero]; rfl
        case hw24 => rfl
        case hq24 => exact fun _ _ _ h => h
        case hy24 => intro w hSw; (try dsimp only at hSw); go_simp; (try with_reducible rfl)
        (try simp only [Act.put, List.setIfInBounds_toArray, List.set_cons_zero, List.set_cons_succ])
        refine wpAnyH_take (i := 24) (oi := ?oi25) (v := ?v25) ?hi25 (by kernel_rfl) (by kernel_rfl) (by kernel_rfl) ?hq25 (Or.inl ⟨?hw25, ?hy25⟩) (by assumption) ?_
        case hi25 => simp only [List.getElem?_toArray, List.getElem?_cons_succ, List.getElem?_cons_zero]; rfl
        case hw25 => rfl
        case hq25 => exact fun _ _ _ h => h
        case hy25 => intro w hSw; (try dsimp only at hSw); go_simp; (try with_reducible rfl)
        (try simp only [Act.put, List.setIfInBounds_toArray, List.set_cons_zero, List.set_cons_succ])
        refine wpAnyH_take (i := 25) (oi := ?oi26) (v := ?v26) ?hi26 (by kernel_rfl) (by kernel_rfl) (by kernel_rfl) ?hq26 (Or.inl ⟨?hw26, ?hy26⟩) (by assumption) ?_
        case hi26 => simp only [List.getElem?_toArray, List.getElem?_cons_succ, List.getElem?_cons_zero]; rfl
        case hw26 => rfl
        case hq26 => exact fun _ _ _ h => h
        case hy26 => intro w hSw; (try dsimp only at hSw); go_simp; (try with_reducible rfl)
        (try simp only [Act.put, List.setIfInBounds_toArray, List.set_cons_zero, List.set_cons_succ])
        refine wpAnyH_take (i := 26) (oi := ?oi27) (v := ?v27) ?hi27 (by kernel_rfl) (by kernel_rfl) (by kernel_rfl) ?hq27 (Or.inl ⟨?hw27, ?hy27⟩) (by assumption) ?_
        case hi27 => simp only [List.getElem?_toArray, List.getElem?_cons_succ, List.getElem?_cons_zero]; rfl
        case hw27 => rfl
        case hq27 => exact fun _ _ _ h => h
        case hy27 => intro w hSw; (try dsimp only at hSw); go_simp; (try with_reducible rfl)
        (try simp only [Act.put, List.setIfInBounds_toArray, List.set_cons_zero, List.set_cons_succ])
        refine wpAnyH_take (i := 27) (oi := ?oi28) (v := ?v28) ?hi28 (by kernel_rfl) (by kernel_rfl) (by kernel_rfl) ?hq28 (Or.inl ⟨?hw28, ?hy28⟩) (by assumption) ?_
        case hi28 => simp only [List.getElem?_toArray, List.getElem?_cons_succ, List.getElem?_cons_zero]; rfl
        case hw28 => rfl
        case hq28 => exact fun _ _ _ h => h
        case hy28 => intro w hSw; (try dsimp only at hSw); go_simp; (try with_reducible rfl)
        (try simp only [Act.put, List.setIfInBounds_toArray, List.set_cons_zero, List.set_cons_succ])
        refine wpAnyH_take (i := 28) (oi := ?oi29) (v := ?v29) ?hi29 (by kernel_rfl) (by kernel_rfl) (by kernel_rfl) ?hq29 (Or.inl ⟨?hw29, ?hy29⟩) (by assumption) ?_
        case hi29 => simp only [List.getElem?_toArray, List.getElem?_cons_succ, List.getElem?_cons_zero]; rfl
        case hw29 => rfl
        case hq29 => exact fun _ _ _ h => h
        case hy29 => intro w hSw; (try dsimp only at hSw); go_simp; (try with_reducible rfl)
        (try simp only [Act.put, List.setIfInBounds_toArray, List.set_cons_zero, List.set_cons_succ])
        refine wpAnyH_take (i := 29) (oi := ?oi30) (v := ?v30) ?hi30 (by kernel_rfl) (by kernel_rfl) (by kernel_rfl) ?hq30 (Or.inl ⟨?hw30, ?hy30⟩) (by assumption) ?_
        case hi30 => simp only [List.getElem?_toArray, List.getElem?_cons_succ, List.getElem?_cons_zero]; rfl
        case hw30 => rfl
        case hq30 => exact fun _ _ _ h => h
        case hy30 => intro w hSw; (try dsimp only at hSw); go_simp; (try with_reducible rfl)
        (try simp only [Act.put, List.setIfInBounds_toArray, List.set_cons_zero, List.set_cons_succ])
        refine wpAnyH_take (i := 30) (oi := ?oi31) (v := ?v31) ?hi31 (by kernel_rfl) (by kernel_rfl) (by kernel_rfl) ?hq31 (Or.inl ⟨?hw31, ?hy31⟩) (by assumption) ?_
        case hi31 => simp only [List.getElem?_toArray, List.getElem?_cons_succ, List.getElem?_cons_zero]; rfl
        case hw31 => rfl
        case hq31 => exact fun _ _ _ h => h
        case hy31 => intro w hSw; (try dsimp only at hSw); go_simp; (try with_reducible rfl)
        (try simp only [Act.put, List.setIfInBounds_toArray, List.set_cons_zero, List.set_cons_succ])
        refine wpAnyH_take (i := 31) (oi := ?oi32) (v := ?v32) ?hi32 (by kernel_rfl) (by kernel_rfl) (by kernel_rfl) ?hq32 (Or.inl ⟨?hw32, ?hy32⟩) (by assumption) ?_
        case hi32 => simp only [List.getElem?_toArray, List.getElem?_cons_succ, List.getElem?_cons_zero]; rfl
        case hw32 => rfl
        case hq32 => exact fun _ _ _ h => h
        case hy32 => intro w hSw; (try dsimp only at hSw); go_simp; (try with_reducible rfl)
        (try simp only [Act.put, List.setIfInBounds_toArray, List.set_cons_zero, List.set_cons_succ])
        refine wpAnyH_ready (rs := [32]) (by kernel_rfl) (by simp) ?_
        refine AllReadyH.cons (o := ?o33) ?ho33 (fun K hK => ?_) AllReadyH.nil
        case ho33 => simp only [List.getElem?_toArray, List.getElem?_cons_succ, List.getElem?_cons_zero]; rfl
        go_simp
        (go_at_call 16; (with_reducible refine (to_boolN (ValidReader_any ((x1.out.drew.below HRg10.out (by first | omega | (simp; omega) | (simp; done))).below HRg11.out (by first | omega | (simp; omega) | (simp; done))) ((x2.out.drew.below HRg10.out (by first | omega | (simp; omega) | (simp; done))).below HRg11.out (by first | omega | (simp; omega) | (simp; done))) ((x3.out.drew.below HRg10.out (by first | omega | (simp; omega) | (simp; done))).below HRg11.out (by first | omega | (simp; omega) | (simp; done))) (by first | omega | (simp; omega) | (simp; done)) (by first | omega | (simp; omega) | (simp; done)) (by first | omega | (simp; omega) | (simp; done)) hcx) VX.out).mono ?_); rintro e wg12 ⟨rfl, hb⟩; (try simp only [World.size_alloc, World.size_setCell, World.size_drew] at hb); have HRg12 := Lib.hid hb; have srg12 := hb.size; (try simp only [World.size_alloc, World.size_setCell, World.size_drew] at srg12); have Yxg12 := Lib.hid (Yxg11.out.below hb (by omega)); have Ydg12 := Lib.hid (Ydg11.out.below hb (by omega)); clear hb; have vx0 := (Yxg12.out.2 0 _ rfl).1; have vx1 := (Yxg12.out.2 1 _ rfl).1; have vx2 := (Yxg12.out.2 2 _ rfl).1; have vx3 := (Yxg12.out.2 3 _ rfl).1; have vx4 := (Yxg12.out.2 4 _ rfl).1; have vx5 := (Yxg12.out.2 5 _ rfl).1; have vd0 := (Ydg12.out.2 0 _ rfl).1; have vd1 := (Ydg12.out.2 1 _ rfl).1; have vd2 := (Ydg12.out.2 2 _ rfl).1; have vd3 := (Ydg12.out.2 3 _ rfl).1; have vd4 := (Ydg12.out.2 4 _ rfl).1; have vd5 := (Ydg12.out.2 5 _ rfl).1)
        clear hHeld
        refine hK.out _ _ (by (try dsimp only); go_keep) (fun hHeld => ?_)
        clear hK K
        (try simp only [Act.put, List.setIfInBounds_toArray, List.set_cons_zero, List.set_cons_succ])
        refine wpAnyH_take (i := 33) (oi := ?oi34) (v := ?v34) ?hi34 (by kernel_rfl) (by kernel_rfl) (by kernel_rfl) ?hq34 (Or.inl ⟨?hw34, ?hy34⟩) (by assumption) ?_
        case hi34 => simp only [List.getElem?_toArray, List.getElem?_cons_succ, List.getElem?_cons_zero]; rfl
        case hw34 => rfl
        case hq34 => exact fun _ _ _ h => h
        case hy34 => intro w hSw; (try dsimp only at hSw); go_simp; (try with_reducible rfl)
        (try simp only [Act.put, List.setIfInBounds_toArray, List.set_cons_zero, List.set_cons_succ])
        refine wpAnyH_take (i := 34) (oi := ?oi35) (v := ?v35) ?hi35 (by kernel_rfl) (by kernel_rfl) (by kernel_rfl) ?hq35 (Or.inl ⟨?hw35, ?hy35⟩) (by assumption) ?_
        case hi35 => simp only [List.getElem?_toArray, List.getElem?_cons_succ, List.getElem?_cons_zero]; rfl
        case hw35 => rfl
        case hq35 => exact fun _ _ _ h => h
        case hy35 => intro w hSw; (try dsimp only at hSw); go_simp; (try with_reducible rfl)
        (try simp only [Act.put, List.setIfInBounds_toArray, List.set_cons_zero, List.set_cons_succ])
        refine wpAnyH_done (by kernel_rfl) ?_ _
        go_wp2
        go_ret
        exact ⟨rfl, (below_step HRg12.out (below_step HRg11.out (below_step HRg10.out EB.out.drew (by first | omega | (simp; omega) | (simp; done))) (by first | omega | (simp; omega) | (simp; done))) (by first | omega | (simp; omega) | (simp; done)))⟩
      · refine (to_rbR (SeekReader_x d1.out d2.out d3.out (by omega) (by omega) (by omega) hcd hcd' hkd (by omega) (by omega) (by omega) (by unfold okInt; omega) (by unfold okInt; omega)) HO.out).mono ?_
        rintro e w3 ⟨Ax, nx, cx, Ax', nx', cx', Ex, mx, kx, rfl, ⟨hcx, hcx', hkx⟩, hb, hd, hd', hr⟩
        (try simp only [World.size_alloc, World.size_setCell, World.size_drew] at hb)
        have HB := Lib.hid hb
        clear hb
        have s3 := HB.out.size
        (try simp only [World.size_alloc, World.size_setCell, World.size_drew] at s3)
        replace d1 := Lib.hid (d1.out.below HB.out (by omega))
        replace d2 := Lib.hid (d2.out.below HB.out (by omega))
        replace d3 := Lib.hid (d3.out.below HB.out (by omega))
        replace Bd := Lib.hid (Bd.out.below HB.out (by omega))
        replace EB := Lib.hid (below_step HB.out EB.out (by omega))
        clear HB
        have x1 := Lib.hid hd
        have x2 := Lib.hid hd'
        have x3 := Lib.hid hr
        clear hd hd' hr
        have vdl := Bd.out.lt
        have vd0 := (Bd.out.2 0 _ rfl).1
        have vd1 := (Bd.out.2 1 _ rfl).1
        have vd2 := (Bd.out.2 2 _ rfl).1
        have vd3 := (Bd.out.2 3 _ rfl).1
        have vd4 := (Bd.out.2 4 _ rfl).1
        have vd5 := (Bd.out.2 5 _ rfl).1
        go_wp2_with fail
        clear vdl vd0 vd1 vd2 vd3 vd4 vd5
        replace d1 := Lib.hid (d1.out.alloc (by omega) (.cells #[.slice Ax nx cx, .int .i64 (P), .slice Ax' nx' cx', .int .i64 (qd), .slice Ex mx kx, .int .i64 (yd)] 27))
        replace d2 := Lib.hid (d2.out.alloc (by omega) (.cells #[.slice Ax nx cx, .int .i64 (P), .slice Ax' nx' cx', .int .i64 (qd), .slice Ex mx kx, .int .i64 (yd)] 27))
        replace d3 := Lib.hid (d3.out.alloc (by omega) (.cells #[.slice Ax nx cx, .int .i64 (P), .slice Ax' nx' cx', .int .i64 (qd), .slice Ex mx kx, .int .i64 (yd)] 27))
        replace Bd := Lib.hid (Bd.out.alloc (.cells #[.slice Ax nx cx, .int .i64 (P), .slice Ax' nx' cx', .int .i64 (qd), .slice Ex mx kx, .int .i64 (yd)] 27))
        replace x1 := Lib.hid (x1.out.alloc (by omega) (.cells #[.slice Ax nx cx, .int .i64 (P), .slice Ax' nx' cx', .int .i64 (qd), .slice Ex mx kx, .int .i64 (yd)] 27))
        replace x2 := Lib.hid (x2.out.alloc (by omega) (.cells #[.slice Ax nx cx, .int .i64 (P), .slice Ax' nx' cx', .int .i64 (qd), .slice Ex mx kx, .int .i64 (yd)] 27))
        replace x3 := Lib.hid (x3.out.alloc (by omega) (.cells #[.slice Ax nx cx, .int .i64 (P), .slice Ax' nx' cx', .int .i64 (qd), .slice Ex mx kx, .int .i64 (yd)] 27))
        replace EB := Lib.hid (EB.out.alloc (by omega) (.cells #[.slice Ax nx cx, .int .i64 (P), .slice Ax' nx' cx', .int .i64 (qd), .slice Ex mx kx, .int .i64 (yd)] 27))
        have Bx := Lib.hid (Box.new w3 27 [.slice Ax nx cx, .int .i64 (P), .slice Ax' nx' cx', .int .i64 (qd), .slice Ex mx kx, .int .i64 (yd)])
        have s4 : w3.heap.size + 1 ≤ (w3.alloc (.cells #[.slice Ax nx cx, .int .i64 (P), .slice Ax' nx' cx', .int .i64 (qd), .slice Ex mx kx, .int .i64 (yd)] 27)).heap.size := by simp
        generalize w3.alloc (.cells #[.slice Ax nx cx, .int .i64 (P), .slice Ax' nx' cx', .int .i64 (qd), .slice Ex mx kx, .int .i64 (yd)] 27) = w4 at *
        refine (to_rbR (SSeekReader_x d1.out d2.out d3.out (by omega) (by omega) (by omega) hcd hcd' hkd (by omega) (by omega) (by omega) (by unfold okInt; omega) (by unfold okInt; omega)) HO.out).mono ?_
        rintro e w5 ⟨Ay, ny, cy, Ay', ny', cy', Ey, my, ky, rfl, ⟨hcy, hcy', hky⟩, hb, hd, hd', hr⟩
        (try simp only [World.size_alloc, World.size_setCell, World.size_drew] at hb)
        have HB := Lib.hid hb
        clear hb
        have s5 := HB.out.size
        (try simp only [World.size_alloc, World.size_setCell, World.size_drew] at s5)
        replace d1 := Lib.hid (d1.out.below HB.out (by omega))
        replace d2 := Lib.hid (d2.out.below HB.out (by omega))
        replace d3 := Lib.hid (d3.out.below HB.out (by omega))
        replace Bd := Lib.hid (Bd.out.below HB.out (by omega))
        replace x1 := Lib.hid (x1.out.below HB.out (by omega))
        replace x2 := Lib.hid (x2.out.below HB.out (by omega))
        replace x3 := Lib.hid (x3.out.below HB.out (by omega))
        replace Bx := Lib.hid (Bx.out.below HB.out (by omega))
        replace EB := Lib.hid (below_step HB.out EB.out (by omega))
        clear HB
        have y1 := Lib.hid hd
        have y2 := Lib.hid hd'
        have y3 := Lib.hid hr
        clear hd hd' hr
        have vxl := Bx.out.lt
        have vx0 := (Bx.out.2 0 _ rfl).1
        have vx1 := (Bx.out.2 1 _ rfl).1
        have vx2 := (Bx.out.2 2 _ rfl).1
        have vx3 := (Bx.out.2 3 _ rfl).1
        have vx4 := (Bx.out.2 4 _ rfl).1
        have vx5 := (Bx.out.2 5 _ rfl).1
        go_wp2_with fail
        clear vxl vx0 vx1 vx2 vx3 vx4 vx5
        replace d1 := Lib.hid (d1.out.alloc (by omega) (.cells #[.slice Ay ny cy, .int .i64 (P), .slice Ay' ny' cy', .int .i64 (qd), .slice Ey my ky, .int .i64 (yd)] 27))
        replace d2 := Lib.hid (d2.out.alloc (by omega) (.cells #[.slice Ay ny cy, .int .i64 (P), .slice Ay' ny' cy', .int .i64 (qd), .slice Ey my ky, .int .i64 (yd)] 27))
        replace d3 := Lib.hid (d3.out.alloc (by omega) (.cells #[.slice Ay ny cy, .int .i64 (P), .slice Ay' ny' cy', .int .i64 (qd), .slice Ey my ky, .int .i64 (yd)] 27))
        replace Bd := Lib.hid (Bd.out.alloc (.cells #[.slice Ay ny cy, .int .i64 (P), .slice Ay' ny' cy', .int .i64 (qd), .slice Ey my ky, .int .i64 (yd)] 27))
        replace x1 := Lib.hid (x1.out.alloc (by omega) (.cells #[.slice Ay ny cy, .int .i64 (P), .slice Ay' ny' cy', .int .i64 (qd), .slice Ey my ky, .int .i64 (yd)] 27))
        replace x2 := Lib.hid (x2.out.alloc (by omega) (.cells #[.slice Ay ny cy, .int .i64 (P), .slice Ay' ny' cy', .int .i64 (qd), .slice Ey my ky, .int .i64 (yd)] 27))
        replace x3 := Lib.hid (x3.out.alloc (by omega) (.cells #[.slice Ay ny cy, .int .i64 (P), .slice Ay' ny' cy', .int .i64 (qd), .slice Ey my ky, .int .i64 (yd)] 27))
        replace Bx := Lib.hid (Bx.out.alloc (.cells #[.slice Ay ny cy, .int .i64 (P), .slice Ay' ny' cy', .int .i64 (qd), .slice Ey my ky, .int .i64 (yd)] 27))
        replace y1 := Lib.hid (y1.out.alloc (by omega) (.cells #[.slice Ay ny cy, .int .i64 (P), .slice Ay' ny' cy', .int .i64 (qd), .slice Ey my ky, .int .i64 (yd)] 27))
        replace y2 := Lib.hid (y2.out.alloc (by omega) (.cells #[.slice Ay ny cy, .int .i64 (P), .slice Ay' ny' cy', .int .i64 (qd), .slice Ey my ky, .int .i64 (yd)] 27))
        replace y3 := Lib.hid (y3.out.alloc (by omega) (.cells #[.slice Ay ny cy, .int .i64 (P), .slice Ay' ny' cy', .int .i64 (qd), .slice Ey my ky, .int .i64 (yd)] 27))
        replace EB := Lib.hid (EB.out.alloc (by omega) (.cells #[.slice Ay ny cy, .int .i64 (P), .slice Ay' ny' cy', .int .i64 (qd), .slice Ey my ky, .int .i64 (yd)] 27))
        have By := Lib.hid (Box.new w5 27 [.slice Ay ny cy, .int .i64 (P), .slice Ay' ny' cy', .int .i64 (qd), .slice Ey my ky, .int .i64 (yd)])
        have s6 : w5.heap.size + 1 ≤ (w5.alloc (.cells #[.slice Ay ny cy, .int .i64 (P), .slice Ay' ny' cy', .int .i64 (qd), .slice Ey my ky, .int .i64 (yd)] 27)).heap.size := by simp
        generalize w5.alloc (.cells #[.slice Ay ny cy, .int .i64 (P), .slice Ay' ny' cy', .int .i64 (qd), .slice Ey my ky, .int .i64 (yd)] 27) = w6 at *
        refine (equalReader_same x1.out x2.out x3.out y1.out y2.out y3.out (by omega) (by omega) (by omega) (by omega) (by omega) (by omega)).mono ?_
        rintro e w7 ⟨rfl, hb⟩
        (try simp only [World.size_alloc, World.size_setCell, World.size_drew] at hb)
        have HB := Lib.hid hb
        clear hb
        have s7 := HB.out.size
        (try simp only [World.size_alloc, World.size_setCell, World.size_drew] at s7)
        replace d1 := Lib.hid (d1.out.below HB.out (by omega))
        replace d2 := Lib.hid (d2.out.below HB.out (by omega))
        replace d3 := Lib.hid (d3.out.below HB.out (by omega))
        replace Bd := Lib.hid (Bd.out.below HB.out (by omega))
        replace x1 := Lib.hid (x1.out.below HB.out (by omega))
        replace x2 := Lib.hid (x2.out.below HB.out (by omega))
        replace x3 := Lib.hid (x3.out.below HB.out (by omega))
        replace Bx := Lib.hid (Bx.out.below HB.out (by omega))
        replace y1 := Lib.hid (y1.out.below HB.out (by omega))
        replace y2 := Lib.hid (y2.out.below HB.out (by omega))
        replace y3 := Lib.hid (y3.out.below HB.out (by omega))
        replace By := Lib.hid (By.out.below HB.out (by omega))
        replace EB := Lib.hid (below_step HB.out EB.out (by omega))
        clear HB
        have hmx : mx ≤ 16 := by rw [x3.out.len]; exact R1L.out
        have vxl := Bx.out.lt
        have vx0 := (Bx.out.2 0 _ rfl).1
        have vx1 := (Bx.out.2 1 _ rfl).1
        have vx2 := (Bx.out.2 2 _ rfl).1
        have vx3 := (Bx.out.2 3 _ rfl).1
        have vx4 := (Bx.out.2 4 _ rfl).1
        have vx5 := (Bx.out.2 5 _ rfl).1
        go_wp2_with fail
        refine (to_intN (TellReader_x x1.out x2.out x3.out (by omega) (by omega) (by omega) hcx) TX.out).mono ?_
        clear vxl vx0 vx1 vx2 vx3 vx4 vx5
        rintro e w8 ⟨rfl, hb⟩
        (try simp only [World.size_alloc, World.size_setCell, World.size_drew] at hb)
        have HB := Lib.hid hb
        clear hb
        have s8 := HB.out.size
        (try simp only [World.size_alloc, World.size_setCell, World.size_drew] at s8)
        replace d1 := Lib.hid (d1.out.below HB.out (by omega))
        replace d2 := Lib.hid (d2.out.below HB.out (by omega))
        replace d3 := Lib.hid (d3.out.below HB.out (by omega))
        replace Bd := Lib.hid (Bd.out.below HB.out (by omega))
        replace x1 := Lib.hid (x1.out.below HB.out (by omega))
        replace x2 := Lib.hid (x2.out.below HB.out (by omega))
        replace x3 := Lib.hid (x3.out.below HB.out (by omega))
        replace Bx := Lib.hid (Bx.out.below HB.out (by omega))
        replace y1 := Lib.hid (y1.out.below HB.out (by omega))
        replace y2 := Lib.hid (y2.out.below HB.out (by omega))
        replace y3 := Lib.hid (y3.out.below HB.out (by omega))
        replace By := Lib.hid (By.out.below HB.out (by omega))
        replace EB := Lib.hid (below_step HB.out EB.out (by omega))
        clear HB
        have vdl := Bd.out.lt
        have vd0 := (Bd.out.2 0 _ rfl).1
        have vd1 := (Bd.out.2 1 _ rfl).1
        have vd2 := (Bd.out.2 2 _ rfl).1
        have vd3 := (Bd.out.2 3 _ rfl).1
        have vd4 := (Bd.out.2 4 _ rfl).1
        have vd5 := (Bd.out.2 5 _ rfl).1
        go_wp2_with fail
        refine (to_intN (TellReader_x d1.out d2.out d3.out (by omega) (by omega) (by omega) hcd) TD.out).mono ?_
        clear vdl vd0 vd1 vd2 vd3 vd4 vd5
        rintro e w9 ⟨rfl, hb⟩
        (try simp only [World.size_alloc, World.size_setCell, World.size_drew] at hb)
        have HB := Lib.hid hb
        clear hb
        have s9 := HB.out.size
        (try simp only [World.size_alloc, World.size_setCell, World.size_drew] at s9)
        replace d1 := Lib.hid (d1.out.below HB.out (by omega))
        replace d2 := Lib.hid (d2.out.below HB.out (by omega))
        replace d3 := Lib.hid (d3.out.below HB.out (by omega))
        replace Bd := Lib.hid (Bd.out.below HB.out (by omega))
        replace x1 := Lib.hid (x1.out.below HB.out (by omega))
        replace x2 := Lib.hid (x2.out.below HB.out (by omega))
        replace x3 := Lib.hid (x3.out.below HB.out (by omega))
        replace Bx := Lib.hid (Bx.out.below HB.out (by omega))
        replace y1 := Lib.hid (y1.out.below HB.out (by omega))
        replace y2 := Lib.hid (y2.out.below HB.out (by omega))
        replace y3 := Lib.hid (y3.out.below HB.out (by omega))
        replace By := Lib.hid (By.out.below HB.out (by omega))
        replace EB := Lib.hid (below_step HB.out EB.out (by omega))
        clear HB
        have hnt : T ≤ nd := by omega
        have hnti : ((T : Nat) : Int) ≤ (nd : Int) := by omega
        have hntc : ((T : Nat) : Int) ≤ (cd : Int) := by omega
        have vxl := Bx.out.lt
        have vx0 := (Bx.out.2 0 _ rfl).1
        have vx1 := (Bx.out.2 1 _ rfl).1
        have vx2 := (Bx.out.2 2 _ rfl).1
        have vx3 := (Bx.out.2 3 _ rfl).1
        have vx4 := (Bx.out.2 4 _ rfl).1
        have vx5 := (Bx.out.2 5 _ rfl).1
        have vdl := Bd.out.lt
        have vd0 := (Bd.out.2 0 _ rfl).1
        have vd1 := (Bd.out.2 1 _ rfl).1
        have vd2 := (Bd.out.2 2 _ rfl).1
        have vd3 := (Bd.out.2 3 _ rfl).1
        have vd4 := (Bd.out.2 4 _ rfl).1
        have vd5 := (Bd.out.2 5 _ rfl).1
        go_wp2_with fail
        refine wp_region_held_drew (S := (fun w' => (w'.cell? ⟨w3.heap.size, 0, none⟩ = some (.slice Ax nx cx) ∧ w'.cell? ⟨w3.heap.size, 1, none⟩ = some (.int .i64 (P)) ∧ w'.cell? ⟨w3.heap.size, 2, none⟩ = some (.slice Ax' nx' cx') ∧ w'.cell? ⟨w3.heap.size, 3, none⟩ = some (.int .i64 (qd)) ∧ w'.cell? ⟨w3.heap.size, 4, none⟩ = some (.slice Ex mx kx) ∧ w'.cell? ⟨w3.heap.size, 5, none⟩ = some (.int .i64 (yd))) ∧ (w'.cell? ⟨w1.heap.size, 0, none⟩ = some (.slice Ad nd cd) ∧ w'.cell? ⟨w1.heap.size, 1, none⟩ = some (.int .i64 (pd)) ∧ w'.cell? ⟨w1.heap.size, 2, none⟩ = some (.slice Ad' nd' cd') ∧ w'.cell? ⟨w1.heap.size, 3, none⟩ = some (.int .i64 (qd)) ∧ w'.cell? ⟨w1.heap.size, 4, none⟩ = some (.slice Ed md kd) ∧ w'.cell? ⟨w1.heap.size, 5, none⟩ = some (.int .i64 (yd))))) (by kernel_rfl) (by (try dsimp only); go_keep) (fun hHeld => ?_)
        refine wpAnyH_take (i := 0) (oi := ?oi36) (v := ?v36) ?hi36 (by kernel_rfl) (by kernel_rfl) (by kernel_rfl) ?hq36 (Or.inl ⟨?hw36, ?hy36⟩) (by assumption) ?_
        case hi36 => simp only [List.getElem?_toArray, List.getElem?_cons_succ, List.getElem?_cons_zero]; rfl
        case hw36 => rfl
        case hq36 => exact fun _ _ _ h => h
        case hy36 => intro w hSw; (try dsimp only at hSw); go_simp; (try with_reducible rfl)
        (try simp only [Act.put, List.setIfInBounds_toArray, List.set_cons_zero, List.set_cons_succ])
        refine wpAnyH_take (i := 2) (oi := ?oi37) (v := ?v37) ?hi37 (by kernel_rfl) (by kernel_rfl) (by kernel_rfl) ?hq37 (Or.inl ⟨?hw37, ?hy37⟩) (by assumption) ?_
        case hi37 => simp only [List.getElem?_toArray, List.getElem?_cons_succ, List.getElem?_cons_zero]; rfl
        case hw37 => rfl
        case hq37 => exact fun _ _ _ h => h
        case hy37 => intro w hSw; (try dsimp only at hSw); go_simp; (try with_reducible rfl)
        (try simp only [Act.put, List.setIfInBounds_toArray, List.set_cons_zero, List.set_cons_succ])
        refine wpAnyH_take (i := 3) (oi := ?oi38) (v := ?v38) ?hi38 (by kernel_rfl) (by kernel_rfl) (by kernel_rfl) ?hq38 (Or.inl ⟨?hw38, ?hy38⟩) (by assumption) ?_
        case hi38 => simp only [List.getElem?_toArray, List.getElem?_cons_succ, List.getElem?_cons_zero]; rfl
        case hw38 => rfl
        case hq38 => exact fun _ _ _ h => h
        case hy38 => intro w hSw; (try dsimp only at hSw); go_simp; (try with_reducible rfl)
        (try simp only [Act.put, List.setIfInBounds_toArray, List.set_cons_zero, List.set_cons_succ])
        refine wpAnyH_take (i := 4) (oi := ?oi39) (v := ?v39) ?hi39 (by kernel_rfl) (by kernel_rfl) (by kernel_rfl) ?hq39 (Or.inl ⟨?hw39, ?hy39⟩) (by assumption) ?_
        case hi39 => simp only [List.getElem?_toArray, List.getElem?_cons_succ, List.getElem?_cons_zero]; rfl
        case hw39 => rfl
        case hq39 => exact fun _ _ _ h => h
        case hy39 => intro w hSw; (try dsimp only at hSw); go_simp; (try with_reducible rfl)
        (try simp only [Act.put, List.setIfInBounds_toArray, List.set_cons_zero, List.set_cons_succ])
        refine wpAnyH_take (i := 5) (oi := ?oi40) (v := ?v40) ?hi40 (by kernel_rfl) (by kernel_rfl) (by kernel_rfl) ?hq40 (Or.inl ⟨?hw40, ?hy40⟩) (by assumption) ?_
        case hi40 => simp only [List.getElem?_toArray, List.getElem?_cons_succ, List.getElem?_cons_zero]; rfl
        case hw40 => rfl
        case hq40 => exact fun _ _ _ h => h
        case hy40 => intro w hSw; (try dsimp only at hSw); go_simp; (try with_reducible rfl)
        (try simp only [Act.put, List.setIfInBounds_toArray, List.set_cons_zero, List.set_cons_succ])
        refine wpAnyH_take (i := 6) (oi := ?oi41) (v := ?v41) ?hi41 (by kernel_rfl) (by kernel_rfl) (by kernel_rfl) ?hq41 (Or.inl ⟨?hw41, ?hy41⟩) (by assumption) ?_
        case hi41 => simp only [List.getElem?_toArray, List.getElem?_cons_succ, List.getElem?_cons_zero]; rfl
        case hw41 => rfl
        case hq41 => exact fun _ _ _ h => h
        case hy41 => intro w hSw; (try dsimp only at hSw); go_simp; (try with_reducible rfl)
        (try simp only [Act.put, List.setIfInBounds_toArray, List.set_cons_zero, List.set_cons_succ])
        refine wpAnyH_ready (rs := [1]) (by kernel_rfl) (by simp) ?_
        refine AllReadyH.cons (o := ?o42) ?ho42 (fun K hK => ?_) AllReadyH.nil
        case ho42 => simp only [List.getElem?_toArray, List.getElem?_cons_succ, List.getElem?_cons_zero]; rfl
        go_simp
        (go_at_call 15; (with_reducible refine (to_listN (ahead_any x1.out.drew x2.out.drew x3.out.drew (by first | omega | (simp; omega) | (simp; done)) (by first | omega | (simp; omega) | (simp; done)) (by first | omega | (simp; omega) | (simp; done)) hcx (by first | omega | (simp; omega) | (simp; done))) AX.out).mono ?_); rintro e wg10 ⟨As, ns, cs, rfl, hcs, hb, hl⟩; (try simp only [World.size_alloc, World.size_setCell, World.size_drew] at hb hl); have HRg10 := Lib.hid hb; have srg10 := hb.size; (try simp only [World.size_alloc, World.size_setCell, World.size_drew] at srg10); have Yxg10 := Lib.hid (Bx.out.drew.below hb (by omega)); have Ydg10 := Lib.hid (Bd.out.drew.below hb (by omega)); have s1 := Lib.hid hl; clear hb hl; have vx0 := (Yxg10.out.2 0 _ rfl).1; have vx1 := (Yxg10.out.2 1 _ rfl).1; have vx2 := (Yxg10.out.2 2 _ rfl).1; have vx3 := (Yxg10.out.2 3 _ rfl).1; have vx4 := (Yxg10.out.2 4 _ rfl).1; have vx5 := (Yxg10.out.2 5 _ rfl).1; have vd0 := (Ydg10.out.2 0 _ rfl).1; have vd1 := (Ydg10.out.2 1 _ rfl).1; have vd2 := (Ydg10.out.2 2 _ rfl).1; have vd3 := (Ydg10.out.2 3 _ rfl).1; have vd4 := (Ydg10.out.2 4 _ rfl).1; have vd5 := (Ydg10.out.2 5 _ rfl).1)
        clear hHeld
        refine hK.out _ _ (by (try dsimp only); go_keep) (fun hHeld => ?_)
        clear hK K
        (try simp only [Act.put, List.setIfInBounds_toArray, List.set_cons_zero, List.set_cons_succ])
        refine wpAnyH_ready (rs := [7]) (by kernel_rfl) (by simp) ?_
        refine AllReadyH.cons (o := ?o43) ?ho43 (fun K hK => ?_) AllReadyH.nil
        case ho43 => simp only [List.getElem?_toArray, List.getElem?_cons_succ, List.getElem?_cons_zero]; rfl
        go_simp
        (go_at_call 13; (have hcut := Ints.cutIf ((d1.out.drew.below HRg10.out (by first | omega | (simp; omega) | (simp; done)))) hnt hcd; generalize (if cd = T then Ad else Option.map (fun x => x.add T) Ad) = Aw at hcut ⊢); (with_reducible refine (equalInts_same s1.out hcut rfl).mono ?_); rintro e wg11 ⟨rfl, hb⟩; (try simp only [World.size_alloc, World.size_setCell, World.size_drew] at hb); have HRg11 := Lib.hid hb; have srg11 := hb.size; (try simp only [World.size_alloc, World.size_setCell, World.size_drew] at srg11); have Yxg11 := Lib.hid (Yxg10.out.below hb (by omega)); have Ydg11 := Lib.hid (Ydg10.out.below hb (by omega)); clear hb; have vx0 := (Yxg11.out.2 0 _ rfl).1; have vx1 := (Yxg11.out.2 1 _ rfl).1; have vx2 := (Yxg11.out.2 2 _ rfl).1; have vx3 := (Yxg11.out.2 3 _ rfl).1; have vx4 := (Yxg11.out.2 4 _ rfl).1; have vx5 := (Yxg11.out.2 5 _ rfl).1; have vd0 := (Ydg11.out.2 0 _ rfl).1; have vd1 := (Ydg11.out.2 1 _ rfl).1; have vd2 := (Ydg11.out.2 2 _ rfl).1; have vd3 := (Ydg11.out.2 3 _ rfl).1; have vd4 := (Ydg11.out.2 4 _ rfl).1; have vd5 := (Ydg11.out.2 5 _ rfl).1)
        clear hHeld
        refine hK.out _ _ (by (try dsimp only); go_keep) (fun hHeld => ?_)
        clear hK K
        (try simp only [Act.put, List.setIfInBounds_toArray, List.set_cons_zero, List.set_cons_succ])
        refine wpAnyH_take (i := 8) (oi := ?oi44) (v := ?v44) ?hi44 (by kernel_rfl) (by kernel_rfl) (by kernel_rfl) ?hq44 (Or.inl ⟨?hw44, ?hy44⟩) (by assumption) ?_
        case hi44 => simp only [List.getElem?_toArray, List.getElem?_cons_succ, List.getElem?_cons_zero]; rfl
        case hw44 => rfl
        case hq44 => exact fun _ _ _ h => h
        case hy44 => intro w hSw; (try dsimp only at hSw); go_simp; (try with_reducible rfl)
        (try simp only [Act.put, List.setIfInBounds_toArray, List.set_cons_zero, List.set_cons_succ])
        refine wpAnyH_take (i := 9) (oi := ?oi45) (v := ?v45) ?hi45 (by kernel_rfl) (by kernel_rfl) (by kernel_rfl) ?hq45 (Or.inl ⟨?hw45, ?hy45⟩) (by assumption) ?_
        case hi45 => simp only [List.getElem?_toArray, List.getElem?_cons_succ, List.getElem?_cons_zero]; rfl
        case hw45 => rfl
        case hq45 => exact fun _ _ _ h => h
        case hy45 => intro w hSw; (try dsimp only at hSw); go_simp; (try with_reducible rfl)
        (try simp only [Act.put, List.setIfInBounds_toArray, List.set_cons_zero, List.set_cons_succ])
        refine wpAnyH_take (i := 10) (oi := ?oi46) (v := ?v46) ?hi46 (by kernel_rfl) (by kernel_rfl) (by kernel_rfl) ?hq46 (Or.inl ⟨?hw46, ?hy46⟩) (by assumption) ?_
        case hi46 => simp only [List.getElem?_toArray, List.getElem?_cons_succ, List.getElem?_cons_zero]; rfl
        case hw46 => rfl
        case hq46 => exact fun _ _ _ h => h
        case hy46 => intro w hSw; (try dsimp only at hSw); go_simp; (try with_reducible rfl)
        (try simp only [Act.put, List.setIfInBounds_toArray, List.set_cons_zero, List.set_cons_succ])
        refine wpAnyH_take (i := 11) (oi := ?oi47) (v := ?v47) ?hi47 (by kernel_rfl) (by kernel_rfl) (by kernel_rfl) ?hq47 (Or.inl ⟨?hw47, ?hy47⟩) (by assumption) ?_
        case hi47 => simp only [List.getElem?_toArray, List.getElem?_cons_succ, List.getElem?_cons_zero]; rfl
        case hw47 => rfl
        case hq47 => exact fun _ _ _ h => h
        case hy47 => intro w hSw; (try dsimp only at hSw); go_simp; (try with_reducible rfl)
        (try simp only [Act.put, List.setIfInBounds_toArray, List.set_cons_zero, List.set_cons_succ])
        refine wpAnyH_take (i := 12) (oi := ?oi48) (v := undef) ?hi48 (by kernel_rfl) (by kernel_rfl) (by kernel_rfl) ?hq48 (Or.inr ⟨?hw48, rfl⟩) (by assumption) ?_
        case hi48 => simp only [List.getElem?_toArray, List.getElem?_cons_succ, List.getElem?_cons_zero]; rfl
        case hw48 => rfl
        case hq48 => exact fun _ _ _ h => h
        (try simp only [Act.put, List.setIfInBounds_toArray, List.set_cons_zero, List.set_cons_succ])
        refine wpAnyH_take (i := 13) (oi := ?oi49) (v := undef) ?hi49 (by kernel_rfl) (by kernel_rfl) (by kernel_rfl) ?hq49 (Or.inr ⟨?hw49, rfl⟩) (by assumption) ?_
        case hi49 => simp only [List.getElem?_toArray, List.getElem?_cons_succ, List.getElem?_cons_zero]; rfl
        case hw49 => rfl
        case hq49 => exact fun _ _ _ h => h
        (try simp only [Act.put, List.setIfInBounds_toArray, List.set_cons_zero, List.set_cons_succ])
        refine wpAnyH_take (i := 14) (oi := ?oi50) (v := undef) ?hi50 (by kernel_rfl) (by kernel_rfl) (by kernel_rfl) ?hq50 (Or.inr ⟨?hw50, rfl⟩) (by assumption) ?_
        case hi50 => simp only [List.getElem?_toArray, List.getElem?_cons_succ, List.getElem?_cons_zero]; rfl
        case hw50 => rfl
        case hq50 => exact fun _ _ _ h => h
        (try simp only [Act.put, List.setIfInBounds_toArray, List.set_cons_zero, List.set_cons_succ])
        refine wpAnyH_take (i := 15) (oi := ?oi51) (v := undef) ?hi51 (by kernel_rfl) (by kernel_rfl) (by kernel_rfl) ?hq51 (Or.inr ⟨?hw51, rfl⟩) (by assumption) ?_
        case hi51 => simp only [List.getElem?_toArray, List.getElem?_cons_succ, List.getElem?_cons_zero]; rfl
        case hw51 => rfl
        case hq51 => exact fun _ _ _ h => h
        (try simp only [Act.put, List.setIfInBounds_toArray, List.set_cons_zero, List.set_cons_succ])
        refine wpAnyH_take (i := 16) (oi := ?oi52) (v := undef) ?hi52 (by kernel_rfl) (by kernel_rfl) (by kernel_rfl) ?hq52 (Or.inr ⟨?hw52, rfl⟩) (by assumption) ?_
        case hi52 => simp only [List.getElem?_toArray, List.getElem?_cons_succ, List.getElem?_cons_zero]; rfl
        case hw52 => rfl
        case hq52 => exact fun _ _ _ h => h
        (try simp only [Act.put, List.setIfInBounds_toArray, List.set_cons_zero, List.set_cons_succ])
        refine wpAnyH_take (i := 17) (oi := ?oi53) (v := undef) ?hi53 (by kernel_rfl) (by kernel_rfl) (by kernel_rfl) ?hq53 (Or.inr ⟨?hw53, rfl⟩) (by assumption) ?_
        case hi53 => simp only [List.getElem?_toArray, List.getElem?_cons_succ, List.getElem?_cons_zero]; rfl
        case hw53 => rfl
        case hq53 => exact fun _ _ _ h => h
        (try simp only [Act.put, List.setIfInBounds_toArray, List.set_cons_zero, List.set_cons_succ])
        refine wpAnyH_take (i := 18) (oi := ?oi54) (v := undef) ?hi54 (by kernel_rfl) (by kernel_rfl) (by kernel_rfl) ?hq54 (Or.inr ⟨?hw54, rfl⟩) (by assumption) ?_
        case hi54 => simp only [List.getElem?_toArray, List.getElem?_cons_succ, List.getElem?_cons_zero]; rfl
        case hw54 => rfl
        case hq54 => exact fun _ _ _ h => h
        (try simp only [Act.put, List.setIfInBounds_toArray, List.set_cons_zero, List.set_cons_succ])
        refine wpAnyH_take (i := 19) (oi := ?oi55) (v := ?v55) ?hi55 (by kernel_rfl) (by kernel_rfl) (by kernel_rfl) ?hq55 (Or.inl ⟨?hw55, ?hy55⟩) (by assumption) ?_
        case hi55 => simp only [List.getElem?_toArray, List.getElem?_cons_succ, List.getElem?_cons_zero]; rfl
        case hw55 => rfl
        case hq55 => exact fun _ _ _ h => h
        case hy55 => intro w hSw; (try dsimp only at hSw); go_simp; (try with_reducible rfl)
        (try simp only [Act.put, List.setIfInBounds_toArray, List.set_cons_zero, List.set_cons_succ])
        refine wpAnyH_take (i := 20) (oi := ?oi56) (v := ?v56) ?hi56 (by kernel_rfl) (by kernel_rfl) (by kernel_rfl) ?hq56 (Or.inl ⟨?hw56, ?hy56⟩) (by assumption) ?_
        case hi56 => simp only [List.getElem?_toArray, List.getElem?_cons_succ, List.getElem?_cons_zero]; rfl
        case hw56 => rfl
        case hq56 => exact fun _ _ _ h => h
        case hy56 => intro w hSw; (try dsimp only at hSw); go_simp; (try with_reducible rfl)
        (try simp only [Act.put, List.setIfInBounds_toArray, List.set_cons_zero, List.set_cons_succ])
        refine wpAnyH_take (i := 21) (oi := ?oi57) (v := ?v57) ?hi57 (by kernel_rfl) (by kernel_rfl) (by kernel_rfl) ?hq57 (Or.inl ⟨?hw57, ?hy57⟩) (by assumption) ?_
        case hi57 => simp only [List.getElem?_toArray, List.getElem?_cons_succ, List.getElem?_cons_zero]; rfl
        case hw57 => rfl
        case hq57 => exact fun _ _ _ h => h
        case hy57 => intro w hSw; (try dsimp only at hSw); go_simp; (try with_reducible rfl)
        (try simp only [Act.put, List.setIfInBounds_toArray, List.set_cons_zero, List.set_cons_succ])
        refine wpAnyH_take (i := 22) (oi := ?oi58) (v := ?v58) ?hi58 (by kernel_rfl) (by kernel_rfl) (by kernel_rfl) ?hq58 (Or.inl ⟨?hw58, ?hy58⟩) (by assumption) ?_
        case hi58 => simp only [List.getElem?_toArray, List.getElem?_cons_succ, List.getElem?_cons_zero]; rfl
        case hw58 => rfl
        case hq58 => exact fun _ _ _ h => h
        case hy58 => intro w hSw; (try dsimp only at hSw); go_simp; (try with_reducible rfl)
        (try simp only [Act.put, List.setIfInBounds_toArray, List.set_cons_zero, List.set_cons_succ])
        refine wpAnyH_take (i := 23) (oi := ?oi59) (v := ?v59) ?hi59 (by kernel_rfl) (by kernel_rfl) (by kernel_rfl) ?hq59 (Or.inl ⟨?hw59, ?hy59⟩) (by assumption) ?_
        case hi59 => simp only [List.getElem?_toArray, List.getElem?_cons_succ, List.getElem?_cons_zero]; rfl
        case hw59 => rfl
        case hq59 => exact fun _ _ _ h => h
        case hy59 => intro w hSw; (try dsimp only at hSw); go_simp; (try with_reducible rfl)
        (try simp only [Act.put, List.setIfInBounds_toArray, List.set_cons_zero, List.set_cons_succ])
        refine wpAnyH_take (i := 24) (oi := ?oi60) (v := ?v60) ?hi60 (by kernel_rfl) (by kernel_rfl) (by kernel_rfl) ?hq60 (Or.inl ⟨?hw60, ?hy60⟩) (by assumption) ?_
        case hi60 => simp only [List.getElem?_toArray, List.getElem?_cons_succ, List.getElem?_cons_zero]; rfl
        case hw60 => rfl
        case hq60 => exact fun _ _ _ h => h
        case hy60 => intro w hSw; (try dsimp only at hSw); go_simp; (try with_reducible rfl)
        (try simp only [Act.put, List.setIfInBounds_toArray, List.set_cons_zero, List.set_cons_succ])
        refine wpAnyH_take (i := 25) (oi := ?oi61) (v := ?v61) ?hi61 (by kernel_rfl) (by kernel_rfl) (by kernel_rfl) ?hq61 (Or.inl ⟨?hw61, ?hy61⟩) (by assumption) ?_
        case hi61 => simp only [List.getElem?_toArray, List.getElem?_cons_succ, List.getElem?_cons_zero]; rfl
        case hw61 => rfl
        case hq61 => exact fun _ _ _ h => h
        case hy61 => intro w hSw; (try dsimp only at hSw); go_simp; (try with_reducible rfl)
        (try simp only [Act.put, List.setIfInBounds_toArray, List.set_cons_zero, List.set_cons_succ])
        refine wpAnyH_take (i := 26) (oi := ?oi62) (v := ?v62) ?hi62 (by kernel_rfl) (by kernel_rfl) (by kernel_rfl) ?hq62 (Or.inl ⟨?hw62, ?hy62⟩) (by assumption) ?_
        case hi62 => simp only [List.getElem?_toArray, List.getElem?_cons_succ, List.getElem?_cons_zero]; rfl
        case hw62 => rfl
        case hq62 => exact fun _ _ _ h => h
        case hy62 => intro w hSw; (try dsimp only at hSw); go_simp; (try with_reducible rfl)
        (try simp only [Act.put, List.setIfInBounds_toArray, List.set_cons_zero, List.set_cons_succ])
        refine wpAnyH_take (i := 27) (oi := ?oi63) (v := ?v63) ?hi63 (by kernel_rfl) (by kernel_rfl) (by kernel_rfl) ?hq63 (Or.inl ⟨?hw63, ?hy63⟩) (by assumption) ?_
        case hi63 => simp only [List.getElem?_toArray, List.getElem?_cons_succ, List.getElem?_cons_zero]; rfl
        case hw63 => rfl
        case hq63 => exact fun _ _ _ h => h
        case hy63 => intro w hSw; (try dsimp only at hSw); go_simp; (try with_reducible rfl)
        (try simp only [Act.put, List.setIfInBounds_toArray, List.set_cons_zero, List.set_cons_succ])
        refine wpAnyH_take (i := 28) (oi := ?oi64) (v := ?v64) ?hi64 (by kernel_rfl) (by kernel_rfl) (by kernel_rfl) ?hq64 (Or.inl ⟨?hw64, ?hy64⟩) (by assumption) ?_
        case hi64 => simp only [List.getElem?_toArray, List.getElem?_cons_succ, List.getElem?_cons_zero]; rfl
        case hw64 => rfl
        case hq64 => exact fun _ _ _ h => h
        case hy64 => intro w hSw; (try dsimp only at hSw); go_simp; (try with_reducible rfl)
        (try simp only [Act.put, List.setIfInBounds_toArray, List.set_cons_zero, List.set_cons_succ])
        refine wpAnyH_take (i := 29) (oi := ?oi65) (v := ?v65) ?hi65 (by kernel_rfl) (by kernel_rfl) (by kernel_rfl) ?hq65 (Or.inl ⟨?hw65, ?hy65⟩) (by assumption) ?_
        case hi65 => simp only [List.getElem?_toArray, List.getElem?_cons_succ, List.getElem?_cons_zero]; rfl
        case hw65 => rfl
        case hq65 => exact fun _ _ _ h => h
        case hy65 => intro w hSw; (try dsimp only at hSw); go_simp; (try with_reducible rfl)
        (try simp only [Act.put, List.setIfInBounds_toArray, List.set_cons_zero, List.set_cons_succ])
        refine wpAnyH_take (i := 30) (oi := ?oi66) (v := ?v66) ?hi66 (by kernel_rfl) (by kernel_rfl) (by kernel_rfl) ?hq66 (Or.inl ⟨?hw66, ?hy66⟩) (by assumption) ?_
        case hi66 => simp only [List.getElem?_toArray, List.getElem?_cons_succ, List.getElem?_cons_zero]; rfl
        case hw66 => rfl
        case hq66 => exact fun _ _ _ h => h
        case hy66 => intro w hSw; (try dsimp only at hSw); go_simp; (try with_reducible rfl)
        (try simp only [Act.put, List.setIfInBounds_toArray, List.set_cons_zero, List.set_cons_succ])
        refine wpAnyH_take (i := 31) (oi := ?oi67) (v := ?v67) ?hi67 (by kernel_rfl) (by kernel_rfl) (by kernel_rfl) ?hq67 (Or.inl ⟨?hw67, ?hy67⟩) (by assumption) ?_
        case hi67 => simp only [List.getElem?_toArray, List.getElem?_cons_succ, List.getElem?_cons_zero]; rfl
        case hw67 => rfl
        case hq67 => exact fun _ _ _ h => h
        case hy67 => intro w hSw; (try dsimp only at hSw); go_simp; (try with_reducible rfl)
        (try simp only [Act.put, List.setIfInBounds_toArray, List.set_cons_zero, List.set_cons_succ])
        refine wpAnyH_ready (rs := [32]) (by kernel_rfl) (by simp) ?_
        refine AllReadyH.cons (o := ?o68) ?ho68 (fun K hK => ?_) AllReadyH.nil
        case ho68 => simp only [List.getElem?_toArray, List.getElem?_cons_succ, List.getElem?_cons_zero]; rfl
        go_simp
        (go_at_call 16; (with_reducible refine (to_boolN (ValidReader_any ((x1.out.drew.below HRg10.out (by first | omega | (simp; omega) | (simp; done))).below HRg11.out (by first | omega | (simp; omega) | (simp; done))) ((x2.out.drew.below HRg10.out (by first | omega | (simp; omega) | (simp; done))).below HRg11.out (by first | omega | (simp; omega) | (simp; done))) ((x3.out.drew.below HRg10.out (by first | omega | (simp; omega) | (simp; done))).below HRg11.out (by first | omega | (simp; omega) | (simp; done))) (by first | omega | (simp; omega) | (simp; done)) (by first | omega | (simp; omega) | (simp; done)) (by first | omega | (simp; omega) | (simp; done)) hcx) VX.out).mono ?_); rintro e wg12 ⟨rfl, hb⟩; (try simp only [World.size_alloc, World.size_setCell, World.size_drew] at hb); have HRg12 := Lib.hid hb; have srg12 := hb.size; (try simp only [World.size_alloc, World.size_setCell, World.size_drew] at srg12); have Yxg12 := Lib.hid (Yxg11.out.below hb (by omega)); have Ydg12 := Lib.hid (Ydg11.out.below hb (by omega)); clear hb; have vx0 := (Yxg12.out.2 0 _ rfl).1; have vx1 := (Yxg12.out.2 1 _ rfl).1; have vx2 := (Yxg12.out.2 2 _ rfl).1; have vx3 := (Yxg12.out.2 3 _ rfl).1; have vx4 := (Yxg12.out.2 4 _ rfl).1; have vx5 := (Yxg12.out.2 5 _ rfl).1; have vd0 := (Ydg12.out.2 0 _ rfl).1; have vd1 := (Ydg12.out.2 1 _ rfl).1; have vd2 := (Ydg12.out.2 2 _ rfl).1; have vd3 := (Ydg12.out.2 3 _ rfl).1; have vd4 := (Ydg12.out.2 4 _ rfl).1; have vd5 := (Ydg12.out.2 5 _ rfl).1)
        clear hHeld
        refine hK.out _ _ (by (try dsimp only); go_keep) (fun hHeld => ?_)
        clear hK K
        (try simp only [Act.put, List.setIfInBounds_toArray, List.set_cons_zero, List.set_cons_succ])
        refine wpAnyH_take (i := 33) (oi := ?oi69) (v := ?v69) ?hi69 (by kernel_rfl) (by kernel_rfl) (by kernel_rfl) ?hq69 (Or.inl ⟨?hw69, ?hy69⟩) (by assumption) ?_
        case hi69 => simp only [List.getElem?_toArray, List.getElem?_cons_succ, List.getElem?_cons_zero]; rfl
        case hw69 => rfl
        case hq69 => exact fun _ _ _ h => h
        case hy69 => intro w hSw; (try dsimp only at hSw); go_simp; (try with_reducible rfl)
        (try simp only [Act.put, List.setIfInBounds_toArray, List.set_cons_zero, List.set_cons_succ])
        refine wpAnyH_take (i := 34) (oi := ?oi70) (v := ?v70) ?hi70 (by kernel_rfl) (by kernel_rfl) (by kernel_rfl) ?hq70 (Or.inl ⟨?hw70, ?hy70⟩) (by assumption) ?_
        case hi70 => simp only [List.getElem?_toArray, List.getElem?_cons_succ, List.getElem?_cons_zero]; rfl
        case hw70 => rfl
        case hq70 => exact fun _ _ _ h => h
        case hy70 => intro w hSw; (try dsimp only at hSw); go_simp; (try with_reducible rfl)
        (try simp only [Act.put, List.setIfInBounds_toArray, List.set_cons_zero, List.set_cons_succ])
        refine wpAnyH_done (by kernel_rfl) ?_ _
        go_wp2
        go_ret
        exact ⟨rfl, (below_step HRg12.out (below_step HRg11.out (below_step HRg10.out EB.out.drew (by first | omega | (simp; omega) | (simp; done))) (by first | omega | (simp; omega) | (simp; done))) (by first | omega | (simp; omega) | (simp; done)))⟩
    · by_cases hTp : (T : Int) ≤ pd
      · have hTi : (t : Int) ≤ (T : Int) := by omega
        have hTn : t ≤ T := hTt
        obtain rfl : P = pd := HNP.out hTt hTp
        clear HNP
        by_cases hm : nd < T
        · refine (to_rbR (SeekReader_x d1.out d2.out d3.out (by omega) (by omega) (by omega) hcd hcd' hkd (by omega) (by omega) (by omega) (by unfold okInt; omega) (by unfold okInt; omega)) HO.out).mono ?_
          rintro e w3 ⟨Ax, nx, cx, Ax', nx', cx', Ex, mx, kx, rfl, ⟨hcx, hcx', hkx⟩, hb, hd, hd', hr⟩
          (try simp only [World.size_alloc, World.size_setCell, World.size_drew] at hb)
          have HB := Lib.hid hb
          clear hb
          have s3 := HB.out.size
          (try simp only [World.size_alloc, World.size_setCell, World.size_drew] at s3)
          replace d1 := Lib.hid (d1.out.below HB.out (by omega))
          replace d2 := Lib.hid (d2.out.below HB.out (by omega))
          replace d3 := Lib.hid (d3.out.below HB.out (by omega))
          replace Bd := Lib.hid (Bd.out.below HB.out (by omega))
          replace EB := Lib.hid (below_step HB.out EB.out (by omega))
          clear HB
          have x1 := Lib.hid hd
          have x2 := Lib.hid hd'
          have x3 := Lib.hid hr
          clear hd hd' hr
          have vdl := Bd.out.lt
          have vd0 := (Bd.out.2 0 _ rfl).1
          have vd1 := (Bd.out.2 1 _ rfl).1
          have vd2 := (Bd.out.2 2 _ rfl).1
          have vd3 := (Bd.out.2 3 _ rfl).1
          have vd4 := (Bd.out.2 4 _ rfl).1
          have vd5 := (Bd.out.2 5 _ rfl).1
          go_wp2_with fail
          clear vdl vd0 vd1 vd2 vd3 vd4 vd5
          replace d1 := Lib.hid (d1.out.alloc (by omega) (.cells #[.slice Ax nx cx, .int .i64 (P), .slice Ax' nx' cx', .int .i64 (qd), .slice Ex mx kx, .int .i64 (yd)] 27))
          replace d2 := Lib.hid (d2.out.alloc (by omega) (.cells #[.slice Ax nx cx, .int .i64 (P), .slice Ax' nx' cx', .int .i64 (qd), .slice Ex mx kx, .int .i64 (yd)] 27))
          replace d3 := Lib.hid (d3.out.alloc (by omega) (.cells #[.slice Ax nx cx, .int .i64 (P), .slice Ax' nx' cx', .int .i64 (qd), .slice Ex mx kx, .int .i64 (yd)] 27))
          replace Bd := Lib.hid (Bd.out.alloc (.cells #[.slice Ax nx cx, .int .i64 (P), .slice Ax' nx' cx', .int .i64 (qd), .slice Ex mx kx, .int .i64 (yd)] 27))
          replace x1 := Lib.hid (x1.out.alloc (by omega) (.cells #[.slice Ax nx cx, .int .i64 (P), .slice Ax' nx' cx', .int .i64 (qd), .slice Ex mx kx, .int .i64 (yd)] 27))
          replace x2 := Lib.hid (x2.out.alloc (by omega) (.cells #[.slice Ax nx cx, .int .i64 (P), .slice Ax' nx' cx', .int .i64 (qd), .slice Ex mx kx, .int .i64 (yd)] 27))
          replace x3 := Lib.hid (x3.out.alloc (by omega) (.cells #[.slice Ax nx cx, .int .i64 (P), .slice Ax' nx' cx', .int .i64 (qd), .slice Ex mx kx, .int .i64 (yd)] 27))
          replace EB := Lib.hid (EB.out.alloc (by omega) (.cells #[.slice Ax nx cx, .int .i64 (P), .slice Ax' nx' cx', .int .i64 (qd), .slice Ex mx kx, .int .i64 (yd)] 27))
          have Bx := Lib.hid (Box.new w3 27 [.slice Ax nx cx, .int .i64 (P), .slice Ax' nx' cx', .int .i64 (qd), .slice Ex mx kx, .int .i64 (yd)])
          have s4 : w3.heap.size + 1 ≤ (w3.alloc (.cells #[.slice Ax nx cx, .int .i64 (P), .slice Ax' nx' cx', .int .i64 (qd), .slice Ex mx kx, .int .i64 (yd)] 27)).heap.size := by simp
          generalize w3.alloc (.cells #[.slice Ax nx cx, .int .i64 (P), .slice Ax' nx' cx', .int .i64 (qd), .slice Ex mx kx, .int .i64 (yd)] 27) = w4 at *
          refine (to_rbR (SSeekReader_x d1.out d2.out d3.out (by omega) (by omega) (by omega) hcd hcd' hkd (by omega) (by omega) (by omega) (by unfold okInt; omega) (by unfold okInt; omega)) HO.out).mono ?_
          rintro e w5 ⟨Ay, ny, cy, Ay', ny', cy', Ey, my, ky, rfl, ⟨hcy, hcy', hky⟩, hb, hd, hd', hr⟩
          (try simp only [World.size_alloc, World.size_setCell, World.size_drew] at hb)
          have HB := Lib.hid hb
          clear hb
          have s5 := HB.out.size
          (try simp only [World.size_alloc, World.size_setCell, World.size_drew] at s5)
          replace d1 := Lib.hid (d1.out.below HB.out (by omega))
          replace d2 := Lib.hid (d2.out.below HB.out (by omega))
          replace d3 := Lib.hid (d3.out.below HB.out (by omega))
          replace Bd := Lib.hid (Bd.out.below HB.out (by omega))
          replace x1 := Lib.hid (x1.out.below HB.out (by omega))
          replace x2 := Lib.hid (x2.out.below HB.out (by omega))
          replace x3 := Lib.hid (x3.out.below HB.out (by omega))
          replace Bx := Lib.hid (Bx.out.below HB.out (by omega))
          replace EB := Lib.hid (below_step HB.out EB.out (by omega))
          clear HB
          have y1 := Lib.hid hd
          have y2 := Lib.hid hd'
          have y3 := Lib.hid hr
          clear hd hd' hr
          have vxl := Bx.out.lt
          have vx0 := (Bx.out.2 0 _ rfl).1
          have vx1 := (Bx.out.2 1 _ rfl).1
          have vx2 := (Bx.out.2 2 _ rfl).1
          have vx3 := (Bx.out.2 3 _ rfl).1
          have vx4 := (Bx.out.2 4 _ rfl).1
          have vx5 := (Bx.out.2 5 _ rfl).1
          go_wp2_with fail
          clear vxl vx0 vx1 vx2 vx3 vx4 vx5
          replace d1 := Lib.hid (d1.out.alloc (by omega) (.cells #[.slice Ay ny cy, .int .i64 (P), .slice Ay' ny' cy', .int .i64 (qd), .slice Ey my ky, .int .i64 (yd)] 27))
          replace d2 := Lib.hid (d2.out.alloc (by omega) (.cells #[.slice Ay ny cy, .int .i64 (P), .slice Ay' ny' cy', .int .i64 (qd), .slice Ey my ky, .int .i64 (yd)] 27))
          replace d3 := Lib.hid (d3.out.alloc (by omega) (.cells #[.slice Ay ny cy, .int .i64 (P), .slice Ay' ny' cy', .int .i64 (qd), .slice Ey my ky, .int .i64 (yd)] 27))
          replace Bd := Lib.hid (Bd.out.alloc (.cells #[.slice Ay ny cy, .int .i64 (P), .slice Ay' ny' cy', .int .i64 (qd), .slice Ey my ky, .int .i64 (yd)] 27))
          replace x1 := Lib.hid (x1.out.alloc (by omega) (.cells #[.slice Ay ny cy, .int .i64 (P), .slice Ay' ny' cy', .int .i64 (qd), .slice Ey my ky, .int .i64 (yd)] 27))
          replace x2 := Lib.hid (x2.out.alloc (by omega) (.cells #[.slice Ay ny cy, .int .i64 (P), .slice Ay' ny' cy', .int .i64 (qd), .slice Ey my ky, .int .i64 (yd)] 27))
          replace x3 := Lib.hid (x3.out.alloc (by omega) (.cells #[.slice Ay ny cy, .int .i64 (P), .slice Ay' ny' cy', .int .i64 (qd), .slice Ey my ky, .int .i64 (yd)] 27))
          replace Bx := Lib.hid (Bx.out.alloc (.cells #[.slice Ay ny cy, .int .i64 (P), .slice Ay' ny' cy', .int .i64 (qd), .slice Ey my ky, .int .i64 (yd)] 27))
          replace y1 := Lib.hid (y1.out.alloc (by omega) (.cells #[.slice Ay ny cy, .int .i64 (P), .slice Ay' ny' cy', .int .i64 (qd), .slice Ey my ky, .int .i64 (yd)] 27))
          replace y2 := Lib.hid (y2.out.alloc (by omega) (.cells #[.slice Ay ny cy, .int .i64 (P), .slice Ay' ny' cy', .int .i64 (qd), .slice Ey my ky, .int .i64 (yd)] 27))
          replace y3 := Lib.hid (y3.out.alloc (by omega) (.cells #[.slice Ay ny cy, .int .i64 (P), .slice Ay' ny' cy', .int .i64 (qd), .slice Ey my ky, .int .i64 (yd)] 27))
          replace EB := Lib.hid (EB.out.alloc (by omega) (.cells #[.slice Ay ny cy, .int .i64 (P), .slice Ay' ny' cy', .int .i64 (qd), .slice Ey my ky, .int .i64 (yd)] 27))
          have By := Lib.hid (Box.new w5 27 [.slice Ay ny cy, .int .i64 (P), .slice Ay' ny' cy', .int .i64 (qd), .slice Ey my ky, .int .i64 (yd)])
          have s6 : w5.heap.size + 1 ≤ (w5.alloc (.cells #[.slice Ay ny cy, .int .i64 (P), .slice Ay' ny' cy', .int .i64 (qd), .slice Ey my ky, .int .i64 (yd)] 27)).heap.size := by simp
          generalize w5.alloc (.cells #[.slice Ay ny cy, .int .i64 (P), .slice Ay' ny' cy', .int .i64 (qd), .slice Ey my ky, .int .i64 (yd)] 27) = w6 at *
          refine (equalReader_same x1.out x2.out x3.out y1.out y2.out y3.out (by omega) (by omega) (by omega) (by omega) (by omega) (by omega)).mono ?_
          rintro e w7 ⟨rfl, hb⟩
          (try simp only [World.size_alloc, World.size_setCell, World.size_drew] at hb)
          have HB := Lib.hid hb
          clear hb
          have s7 := HB.out.size
          (try simp only [World.size_alloc, World.size_setCell, World.size_drew] at s7)
          replace d1 := Lib.hid (d1.out.below HB.out (by omega))
          replace d2 := Lib.hid (d2.out.below HB.out (by omega))
          replace d3 := Lib.hid (d3.out.below HB.out (by omega))
          replace Bd := Lib.hid (Bd.out.below HB.out (by omega))
          replace x1 := Lib.hid (x1.out.below HB.out (by omega))
          replace x2 := Lib.hid (x2.out.below HB.out (by omega))
          replace x3 := Lib.hid (x3.out.below HB.out (by omega))
          replace Bx := Lib.hid (Bx.out.below HB.out (by omega))
          replace y1 := Lib.hid (y1.out.below HB.out (by omega))
          replace y2 := Lib.hid (y2.out.below HB.out (by omega))
          replace y3 := Lib.hid (y3.out.below HB.out (by omega))
          replace By := Lib.hid (By.out.below HB.out (by omega))
          replace EB := Lib.hid (below_step HB.out EB.out (by omega))
          clear HB
          have hmx : mx ≤ 16 := by rw [x3.out.len]; exact R1L.out
          have vxl := Bx.out.lt
          have vx0 := (Bx.out.2 0 _ rfl).1
          have vx1 := (Bx.out.2 1 _ rfl).1
          have vx2 := (Bx.out.2 2 _ rfl).1
          have vx3 := (Bx.out.2 3 _ rfl).1
          have vx4 := (Bx.out.2 4 _ rfl).1
          have vx5 := (Bx.out.2 5 _ rfl).1
          go_wp2_with fail
          refine (to_intN (TellReader_x x1.out x2.out x3.out (by omega) (by omega) (by omega) hcx) TX.out).mono ?_
          clear vxl vx0 vx1 vx2 vx3 vx4 vx5
          rintro e w8 ⟨rfl, hb⟩
          (try simp only [World.size_alloc, World.size_setCell, World.size_drew] at hb)
          have HB := Lib.hid hb
          clear hb
          have s8 := HB.out.size
          (try simp only [World.size_alloc, World.size_setCell, World.size_drew] at s8)
          replace d1 := Lib.hid (d1.out.below HB.out (by omega))
          replace d2 := Lib.hid (d2.out.below HB.out (by omega))
          replace d3 := Lib.hid (d3.out.below HB.out (by omega))
          replace Bd := Lib.hid (Bd.out.below HB.out (by omega))
          replace x1 := Lib.hid (x1.out.below HB.out (by omega))
          replace x2 := Lib.hid (x2.out.below HB.out (by omega))
          replace x3 := Lib.hid (x3.out.below HB.out (by omega))
          replace Bx := Lib.hid (Bx.out.below HB.out (by omega))
          replace y1 := Lib.hid (y1.out.below HB.out (by omega))
          replace y2 := Lib.hid (y2.out.below HB.out (by omega))
          replace y3 := Lib.hid (y3.out.below HB.out (by omega))
          replace By := Lib.hid (By.out.below HB.out (by omega))
          replace EB := Lib.hid (below_step HB.out EB.out (by omega))
          clear HB
          have vdl := Bd.out.lt
          have vd0 := (Bd.out.2 0 _ rfl).1
          have vd1 := (Bd.out.2 1 _ rfl).1
          have vd2 := (Bd.out.2 2 _ rfl).1
          have vd3 := (Bd.out.2 3 _ rfl).1
          have vd4 := (Bd.out.2 4 _ rfl).1
          have vd5 := (Bd.out.2 5 _ rfl).1
          go_wp2_with fail
          refine (to_intN (TellReader_x d1.out d2.out d3.out (by omega) (by omega) (by omega) hcd) TD.out).mono ?_
          clear vdl vd0 vd1 vd2 vd3 vd4 vd5
          rintro e w9 ⟨rfl, hb⟩
          (try simp only [World.size_alloc, World.size_setCell, World.size_drew] at hb)
          have HB := Lib.hid hb
          clear hb
          have s9 := HB.out.size
          (try simp only [World.size_alloc, World.size_setCell, World.size_drew] at s9)
          replace d1 := Lib.hid (d1.out.below HB.out (by omega))
          replace d2 := Lib.hid (d2.out.below HB.out (by omega))
          replace d3 := Lib.hid (d3.out.below HB.out (by omega))
          replace Bd := Lib.hid (Bd.out.below HB.out (by omega))
          replace x1 := Lib.hid (x1.out.below HB.out (by omega))
          replace x2 := Lib.hid (x2.out.below HB.out (by omega))
          replace x3 := Lib.hid (x3.out.below HB.out (by omega))
          replace Bx := Lib.hid (Bx.out.below HB.out (by omega))
          replace y1 := Lib.hid (y1.out.below HB.out (by omega))
          replace y2 := Lib.hid (y2.out.below HB.out (by omega))
          replace y3 := Lib.hid (y3.out.below HB.out (by omega))
          replace By := Lib.hid (By.out.below HB.out (by omega))
          replace EB := Lib.hid (below_step HB.out EB.out (by omega))
          clear HB
          have hnt : nd ≤ nd := by omega
          have hnti : ((nd : Nat) : Int) ≤ (nd : Int) := by omega
          have hntc : ((nd : Nat) : Int) ≤ (cd : Int) := by omega
          have HDR : Hid (Dd.drop T = Dd.drop nd) := by show _ = _; have := d1.out.len; rw [List.drop_of_length_le (by omega), List.drop_of_length_le (by omega)]
          have vxl := Bx.out.lt
          have vx0 := (Bx.out.2 0 _ rfl).1
          have vx1 := (Bx.out.2 1 _ rfl).1
          have vx2 := (Bx.out.2 2 _ rfl).1
          have vx3 := (Bx.out.2 3 _ rfl).1
          have vx4 := (Bx.out.2 4 _ rfl).1
          have vx5 := (Bx.out.2 5 _ rfl).1
          have vdl := Bd.out.lt
          have vd0 := (Bd.out.2 0 _ rfl).1
          have vd1 := (Bd.out.2 1 _ rfl).1
          have vd2 := (Bd.out.2 2 _ rfl).1
          have vd3 := (Bd.out.2 3 _ rfl).1
          have vd4 := (Bd.out.2 4 _ rfl).1
          have vd5 := (Bd.out.2 5 _ rfl).1
          go_wp2_with fail
          refine wp_region_held_drew (S := (fun w' => (w'.cell? ⟨w3.heap.size, 0, none⟩ = some (.slice Ax nx cx) ∧ w'.cell? ⟨w3.heap.size, 1, none⟩ = some (.int .i64 (P)) ∧ w'.cell? ⟨w3.heap.size, 2, none⟩ = some (.slice Ax' nx' cx') ∧ w'.cell? ⟨w3.heap.size, 3, none⟩ = some (.int .i64 (qd)) ∧ w'.cell? ⟨w3.heap.size, 4, none⟩ = some (.slice Ex mx kx) ∧ w'.cell? ⟨w3.heap.size, 5, none⟩ = some (.int .i64 (yd))) ∧ (w'.cell? ⟨w1.heap.size, 0, none⟩ = some (.slice Ad nd cd) ∧ w'.cell? ⟨w1.heap.size, 1, none⟩ = some (.int .i64 (P)) ∧ w'.cell? ⟨w1.heap.size, 2, none⟩ = some (.slice Ad' nd' cd') ∧ w'.cell? ⟨w1.heap.size, 3, none⟩ = some (.int .i64 (qd)) ∧ w'.cell? ⟨w1.heap.size, 4, none⟩ = some (.slice Ed md kd) ∧ w'.cell? ⟨w1.heap.size, 5, none⟩ = some (.int .i64 (yd))))) (by kernel_rfl) (by (try dsimp only); go_keep) (fun hHeld => ?_)
          refine wpAnyH_take (i := 0) (oi := ?oi71) (v := ?v71) ?hi71 (by kernel_rfl) (by kernel_rfl) (by kernel_rfl) ?hq71 (Or.inl ⟨?hw71, ?hy71⟩) (by assumption) ?_
          case hi71 => simp only [List.getElem?_toArray, List.getElem?_cons_succ, List.getElem?_cons_zero]; rfl
          case hw71 => rfl
          case hq71 => exact fun _ _ _ h => h
          case hy71 => intro w hSw; (try dsimp only at hSw); go_simp; (try with_reducible rfl)
          (try simp only [Act.put, List.setIfInBounds_toArray, List.set_cons_zero, List.set_cons_succ])
          refine wpAnyH_take (i := 2) (oi := ?oi72) (v := ?v72) ?hi72 (by kernel_rfl) (by kernel_rfl) (by kernel_rfl) ?hq72 (Or.inl ⟨?hw72, ?hy72⟩) (by assumption) ?_
          case hi72 => simp only [List.getElem?_toArray, List.getElem?_cons_succ, List.getElem?_cons_zero]; rfl
          case hw72 => rfl
          case hq72 => exact fun _ _ _ h => h
          case hy72 => intro w hSw; (try dsimp only at hSw); go_simp; (try with_reducible rfl)
          (try simp only [Act.put, List.setIfInBounds_toArray, List.set_cons_zero, List.set_cons_succ])
          refine wpAnyH_take (i := 3) (oi := ?oi73) (v := ?v73) ?hi73 (by kernel_rfl) (by kernel_rfl) (by kernel_rfl) ?hq73 (Or.inl ⟨?hw73, ?hy73⟩) (by assumption) ?_
          case hi73 => simp only [List.getElem?_toArray, List.getElem?_cons_succ, List.getElem?_cons_zero]; rfl
          case hw73 => rfl
          case hq73 => exact fun _ _ _ h => h
          case hy73 => intro w hSw; (try dsimp only at hSw); go_simp; (try with_reducible rfl)
          (try simp only [Act.put, List.setIfInBounds_toArray, List.set_cons_zero, List.set_cons_succ])
          refine wpAnyH_take (i := 4) (oi := ?oi74) (v := ?v74) ?hi74 (by kernel_rfl) (by kernel_rfl) (by kernel_rfl) ?hq74 (Or.inl ⟨?hw74, ?hy74⟩) (by assumption) ?_
          case hi74 => simp only [List.getElem?_toArray, List.getElem?_cons_succ, List.getElem?_cons_zero]; rfl
          case hw74 => rfl
          case hq74 => exact fun _ _ _ h => h
          case hy74 => intro w hSw; (try dsimp only at hSw); go_simp; (try with_reducible rfl)
          (try simp only [Act.put, List.setIfInBounds_toArray, List.set_cons_zero, List.set_cons_succ])
          refine wpAnyH_take (i := 5) (oi := ?oi75) (v := ?v75) ?hi75 (by kernel_rfl) (by kernel_rfl) (by kernel_rfl) ?hq75 (Or.inl ⟨?hw75, ?hy75⟩) (by assumption) ?_
          case hi75 => simp only [List.getElem?_toArray, List.getElem?_cons_succ, List.getElem?_cons_zero]; rfl
          case hw75 => rfl
          case hq75 => exact fun _ _ _ h => h
          case hy75 => intro w hSw; (try dsimp only at hSw); go_simp; (try with_reducible rfl)
          (try simp only [Act.put, List.setIfInBounds_toArray, List.set_cons_zero, List.set_cons_succ])
          refine wpAnyH_take (i := 6) (oi := ?oi76) (v := ?v76) ?hi76 (by kernel_rfl) (by kernel_rfl) (by kernel_rfl) ?hq76 (Or.inl ⟨?hw76, ?hy76⟩) (by assumption) ?_
          case hi76 => simp only [List.getElem?_toArray, List.getElem?_cons_succ, List.getElem?_cons_zero]; rfl
          case hw76 => rfl
          case hq76 => exact fun _ _ _ h => h
          case hy76 => intro w hSw; (try dsimp only at hSw); go_simp; (try with_reducible rfl)
          (try simp only [Act.put, List.setIfInBounds_toArray, List.set_cons_zero, List.set_cons_succ])
          refine wpAnyH_ready (rs := [1]) (by kernel_rfl) (by simp) ?_
          refine AllReadyH.cons (o := ?o77) ?ho77 (fun K hK => ?_) AllReadyH.nil
          case ho77 => simp only [List.getElem?_toArray, List.getElem?_cons_succ, List.getElem?_cons_zero]; rfl
          go_simp
          (go_at_call 15; (with_reducible refine (to_listN (ahead_any x1.out.drew x2.out.drew x3.out.drew (by first | omega | (simp; omega) | (simp; done)) (by first | omega | (simp; omega) | (simp; done)) (by first | omega | (simp; omega) | (simp; done)) hcx (by first | omega | (simp; omega) | (simp; done))) AX.out).mono ?_); rintro e wg10 ⟨As, ns, cs, rfl, hcs, hb, hl⟩; (try simp only [World.size_alloc, World.size_setCell, World.size_drew] at hb hl); have HRg10 := Lib.hid hb; have srg10 := hb.size; (try simp only [World.size_alloc, World.size_setCell, World.size_drew] at srg10); have Yxg10 := Lib.hid (Bx.out.drew.below hb (by omega)); have Ydg10 := Lib.hid (Bd.out.drew.below hb (by omega)); have s1 := Lib.hid hl; clear hb hl; have vx0 := (Yxg10.out.2 0 _ rfl).1; have vx1 := (Yxg10.out.2 1 _ rfl).1; have vx2 := (Yxg10.out.2 2 _ rfl).1; have vx3 := (Yxg10.out.2 3 _ rfl).1; have vx4 := (Yxg10.out.2 4 _ rfl).1; have vx5 := (Yxg10.out.2 5 _ rfl).1; have vd0 := (Ydg10.out.2 0 _ rfl).1; have vd1 := (Ydg10.out.2 1 _ rfl).1; have vd2 := (Ydg10.out.2 2 _ rfl).1; have vd3 := (Ydg10.out.2 3 _ rfl).1; have vd4 := (Ydg10.out.2 4 _ rfl).1; have vd5 := (Ydg10.out.2 5 _ rfl).1)
          clear hHeld
          refine hK.out _ _ (by (try dsimp only); go_keep) (fun hHeld => ?_)
          clear hK K
          (try simp only [Act.put, List.setIfInBounds_toArray, List.set_cons_zero, List.set_cons_succ])
          refine wpAnyH_ready (rs := [7]) (by kernel_rfl) (by simp) ?_
          refine AllReadyH.cons (o := ?o78) ?ho78 (fun K hK => ?_) AllReadyH.nil
          case ho78 => simp only [List.getElem?_toArray, List.getElem?_cons_succ, List.getElem?_cons_zero]; rfl
          go_simp
          (go_at_call 13; (have hcut := Ints.cutIf ((d1.out.drew.below HRg10.out (by first | omega | (simp; omega) | (simp; done)))) hnt hcd; rw [Nat.sub_self] at hcut; generalize (if cd = nd then Ad else Option.map (fun x => x.add nd) Ad) = Aw at hcut ⊢); (with_reducible refine (equalInts_same s1.out hcut HDR.out).mono ?_); rintro e wg11 ⟨rfl, hb⟩; (try simp only [World.size_alloc, World.size_setCell, World.size_drew] at hb); have HRg11 := Lib.hid hb; have srg11 := hb.size; (try simp only [World.size_alloc, World.size_setCell, World.size_drew] at srg11); have Yxg11 := Lib.hid (Yxg10.out.below hb (by omega)); have Ydg11 := Lib.hid (Ydg10.out.below hb (by omega)); clear hb; have vx0 := (Yxg11.out.2 0 _ rfl).1; have vx1 := (Yxg11.out.2 1 _ rfl).1; have vx2 := (Yxg11.out.2 2 _ rfl).1; have vx3 := (Yxg11.out.2 3 _ rfl).1; have vx4 := (Yxg11.out.2 4 _ rfl).1; have vx5 := (Yxg11.out.2 5 _ rfl).1; have vd0 := (Ydg11.out.2 0 _ rfl).1; have vd1 := (Ydg11.out.2 1 _ rfl).1; have vd2 := (Ydg11.out.2 2 _ rfl).1; have vd3 := (Ydg11.out.2 3 _ rfl).1; have vd4 := (Ydg11.out.2 4 _ rfl).1; have vd5 := (Ydg11.out.2 5 _ rfl).1)
          clear hHeld
          refine hK.out _ _ (by (try dsimp only); go_keep) (fun hHeld => ?_)
          clear hK K
          (try simp only [Act.put, List.setIfInBounds_toArray, List.set_cons_zero, List.set_cons_succ])
          refine wpAnyH_take (i := 8) (oi := ?oi79) (v := ?v79) ?hi79 (by kernel_rfl) (by kernel_rfl) (by kernel_rfl) ?hq79 (Or.inl ⟨?hw79, ?hy79⟩) (by assumption) ?_
          case hi79 => simp only [List.getElem?_toArray, List.getElem?_cons_succ, List.getElem?_cons_zero]; rfl
          case hw79 => rfl
          case hq79 => exact fun _ _ _ h => h
          case hy79 => intro w hSw; (try dsimp only at hSw); go_simp; (try with_reducible rfl)
          (try simp only [Act.put, List.setIfInBounds_toArray, List.set_cons_zero, List.set_cons_succ])
          refine wpAnyH_take (i := 9) (oi := ?oi80) (v := ?v80) ?hi80 (by kernel_rfl) (by kernel_rfl) (by kernel_rfl) ?hq80 (Or.inl ⟨?hw80, ?hy80⟩) (by assumption) ?_
          case hi80 => simp only [List.getElem?_toArray, List.getElem?_cons_succ, List.getElem?_cons_zero]; rfl
          case hw80 => rfl
          case hq80 => exact fun _ _ _ h => h
          case hy80 => intro w hSw; (try dsimp only at hSw); go_simp; (try with_reducible rfl)
          (try simp only [Act.put, List.setIfInBounds_toArray, List.set_cons_zero, List.set_cons_succ])
          refine wpAnyH_take (i := 10) (oi := ?oi81) (v := ?v81) ?hi81 (by kernel_rfl) (by kernel_rfl) (by kernel_rfl) ?hq81 (Or.inl ⟨?hw81, ?hy81⟩) (by assumption) ?_
          case hi81 => simp only [List.getElem?_toArray, List.getElem?_cons_succ, List.getElem?_cons_zero]; rfl
          case hw81 => rfl
          case hq81 => exact fun _ _ _ h => h
          case hy81 => intro w hSw; (try dsimp only at hSw); go_simp; (try with_reducible rfl)
          (try simp only [Act.put, List.setIfInBounds_toArray, List.set_cons_zero, List.set_cons_succ])
          refine wpAnyH_take (i := 11) (oi := ?oi82) (v := ?v82) ?hi82 (by kernel_rfl) (by kernel_rfl) (by kernel_rfl) ?hq82 (Or.inl ⟨?hw82, ?hy82⟩) (by assumption) ?_
          case hi82 => simp only [List.getElem?_toArray, List.getElem?_cons_succ, List.getElem?_cons_zero]; rfl
          case hw82 => rfl
          case hq82 => exact fun _ _ _ h => h
          case hy82 => intro w hSw; (try dsimp only at hSw); go_simp; (try with_reducible rfl)
          (try simp only [Act.put, List.setIfInBounds_toArray, List.set_cons_zero, List.set_cons_succ])
          refine wpAnyH_take (i := 12) (oi := ?oi83) (v := ?v83) ?hi83 (by kernel_rfl) (by kernel_rfl) (by kernel_rfl) ?hq83 (Or.inl ⟨?hw83, ?hy83⟩) (by assumption) ?_
          case hi83 => simp only [List.getElem?_toArray, List.getElem?_cons_succ, List.getElem?_cons_zero]; rfl
          case hw83 => rfl
          case hq83 => exact fun _ _ _ h => h
          case hy83 => intro w hSw; (try dsimp only at hSw); go_simp; (try with_reducible rfl)
          (try simp only [Act.put, List.setIfInBounds_toArray, List.set_cons_zero, List.set_cons_succ])
          refine wpAnyH_take (i := 13) (oi := ?oi84) (v := ?v84) ?hi84 (by kernel_rfl) (by kernel_rfl) (by kernel_rfl) ?hq84 (Or.inl ⟨?hw84, ?hy84⟩) (by assumption) ?_
          case hi84 => simp only [List.getElem?_toArray, List.getElem?_cons_succ, List.getElem?_cons_zero]; rfl
          case hw84 => rfl
          case hq84 => exact fun _ _ _ h => h
          case hy84 => intro w hSw; (try dsimp only at hSw); go_simp; (try with_reducible rfl)
          (try simp only [Act.put, List.setIfInBounds_toArray, List.set_cons_zero, List.set_cons_succ])
          refine wpAnyH_take (i := 14) (oi := ?oi85) (v := ?v85) ?hi85 (by kernel_rfl) (by kernel_rfl) (by kernel_rfl) ?hq85 (Or.inl ⟨?hw85, ?hy85⟩) (by assumption) ?_
          case hi85 => simp only [List.getElem?_toArray, List.getElem?_cons_succ, List.getElem?_cons_zero]; rfl
          case hw85 => rfl
          case hq85 => exact fun _ _ _ h => h
          case hy85 => intro w hSw; (try dsimp only at hSw); go_simp; (try with_reducible rfl)
          (try simp only [Act.put, List.setIfInBounds_toArray, List.set_cons_zero, List.set_cons_succ])
          refine wpAnyH_take (i := 15) (oi := ?oi86) (v := ?v86) ?hi86 (by kernel_rfl) (by kernel_rfl) (by kernel_rfl) ?hq86 (Or.inl ⟨?hw86, ?hy86⟩) (by assumption) ?_
          case hi86 => simp only [List.getElem?_toArray, List.getElem?_cons_succ, List.getElem?_cons_zero]; rfl
          case hw86 => rfl
          case hq86 => exact fun _ _ _ h => h
          case hy86 => intro w hSw; (try dsimp only at hSw); go_simp; (try with_reducible rfl)
          (try simp only [Act.put, List.setIfInBounds_toArray, List.set_cons_zero, List.set_cons_succ])
          refine wpAnyH_take (i := 16) (oi := ?oi87) (v := ?v87) ?hi87 (by kernel_rfl) (by kernel_rfl) (by kernel_rfl) ?hq87 (Or.inl ⟨?hw87, ?hy87⟩) (by assumption) ?_
          case hi87 => simp only [List.getElem?_toArray, List.getElem?_cons_succ, List.getElem?_cons_zero]; rfl
          case hw87 => rfl
          case hq87 => exact fun _ _ _ h => h
          case hy87 => intro w hSw; (try dsimp only at hSw); go_simp; (try with_reducible rfl)
          (try simp only [Act.put, List.setIfInBounds_toArray, List.set_cons_zero, List.set_cons_succ])
          refine wpAnyH_take (i := 17) (oi := ?oi88) (v := ?v88) ?hi88 (by kernel_rfl) (by kernel_rfl) (by kernel_rfl) ?hq88 (Or.inl ⟨?hw88, ?hy88⟩) (by assumption) ?_
          case hi88 => simp only [List.getElem?_toArray, List.getElem?_cons_succ, List.getElem?_cons_zero]; rfl
          case hw88 => rfl
          case hq88 => exact fun _ _ _ h => h
          case hy88 => intro w hSw; (try dsimp only at hSw); go_simp; (try with_reducible rfl)
          (try simp only [Act.put, List.setIfInBounds_toArray, List.set_cons_zero, List.set_cons_succ])
          refine wpAnyH_take (i := 18) (oi := ?oi89) (v := ?v89) ?hi89 (by kernel_rfl) (by kernel_rfl) (by kernel_rfl) ?hq89 (Or.inl ⟨?hw89, ?hy89⟩) (by assumption) ?_
          case hi89 => simp only [List.getElem?_toArray, List.getElem?_cons_succ, List.getElem?_cons_zero]; rfl
          case hw89 => rfl
          case hq89 => exact fun _ _ _ h => h
          case hy89 => intro w hSw; (try dsimp only at hSw); go_simp; (try with_reducible rfl)
          (try simp only [Act.put, List.setIfInBounds_toArray, List.set_cons_zero, List.set_cons_succ])
          refine wpAnyH_take (i := 19) (oi := ?oi90) (v := ?v90) ?hi90 (by kernel_rfl) (by kernel_rfl) (by kernel_rfl) ?hq90 (Or.inl ⟨?hw90, ?hy90⟩) (by assumption) ?_
          case hi90 => simp only [List.getElem?_toArray, List.getElem?_cons_succ, List.getElem?_cons_zero]; rfl
          case hw90 => rfl
          case hq90 => exact fun _ _ _ h => h
          case hy90 => intro w hSw; (try dsimp only at hSw); go_simp; (try with_reducible rfl)
          (try simp only [Act.put, List.setIfInBounds_toArray, List.set_cons_zero, List.set_cons_succ])
          refine wpAnyH_take (i := 20) (oi := ?oi91) (v := ?v91) ?hi91 (by kernel_rfl) (by kernel_rfl) (by kernel_rfl) ?hq91 (Or.inl ⟨?hw91, ?hy91⟩) (by assumption) ?_
          case hi91 => simp only [List.getElem?_toArray, List.getElem?_cons_succ, List.getElem?_cons_zero]; rfl
          case hw91 => rfl
          case hq91 => exact fun _ _ _ h => h
          case hy91 => intro w hSw; (try dsimp only at hSw); go_simp; (try with_reducible rfl)
          (try simp only [Act.put, List.setIfInBounds_toArray, List.set_cons_zero, List.set_cons_succ])
          refine wpAnyH_take (i := 21) (oi := ?oi92) (v := ?v92) ?hi92 (by kernel_rfl) (by kernel_rfl) (by kernel_rfl) ?hq92 (Or.inl ⟨?hw92, ?hy92⟩) (by assumption) ?_
          case hi92 => simp only [List.getElem?_toArray, List.getElem?_cons_succ, List.getElem?_cons_zero]; rfl
          case hw92 => rfl
          case hq92 => exact fun _ _ _ h => h
          case hy92 => intro w hSw; (try dsimp only at hSw); go_simp; (try with_reducible rfl)
          (try simp only [Act.put, List.setIfInBounds_toArray, List.set_cons_zero, List.set_cons_succ])
          refine wpAnyH_take (i := 22) (oi := ?oi93) (v := ?v93) ?hi93 (by kernel_rfl) (by kernel_rfl) (by kernel_rfl) ?hq93 (Or.inl ⟨?hw93, ?hy93⟩) (by assumption) ?_
          case hi93 => simp only [List.getElem?_toArray, List.getElem?_cons_succ, List.getElem?_cons_zero]; rfl
          case hw93 => rfl
          case hq93 => exact fun _ _ _ h => h
          case hy93 => intro w hSw; (try dsimp only at hSw); go_simp; (try with_reducible rfl)
          (try simp only [Act.put, List.setIfInBounds_toArray, List.set_cons_zero, List.set_cons_succ])
          refine wpAnyH_take (i := 23) (oi := ?oi94) (v := ?v94) ?hi94 (by kernel_rfl) (by kernel_rfl) (by kernel_rfl) ?hq94 (Or.inl ⟨?hw94, ?hy94⟩) (by assumption) ?_
          case hi94 => simp only [List.getElem?_toArray, List.getElem?_cons_succ, List.getElem?_cons_zero]; rfl
          case hw94 => rfl
          case hq94 => exact fun _ _ _ h => h
          case hy94 => intro w hSw; (try dsimp only at hSw); go_simp; (try with_reducible rfl)
          (try simp only [Act.put, List.setIfInBounds_toArray, List.set_cons_zero, List.set_cons_succ])
          refine wpAnyH_take (i := 24) (oi := ?oi95) (v := ?v95) ?hi95 (by kernel_rfl) (by kernel_rfl) (by kernel_rfl) ?hq95 (Or.inl ⟨?hw95, ?hy95⟩) (by assumption) ?_
          case hi95 => simp only [List.getElem?_toArray, List.getElem?_cons_succ, List.getElem?_cons_zero]; rfl
          case hw95 => rfl
          case hq95 => exact fun _ _ _ h => h
          case hy95 => intro w hSw; (try dsimp only at hSw); go_simp; (try with_reducible rfl)
          (try simp only [Act.put, List.setIfInBounds_toArray, List.set_cons_zero, List.set_cons_succ])
          refine wpAnyH_take (i := 25) (oi := ?oi96) (v := ?v96) ?hi96 (by kernel_rfl) (by kernel_rfl) (by kernel_rfl) ?hq96 (Or.inl ⟨?hw96, ?hy96⟩) (by assumption) ?_
          case hi96 => simp only [List.getElem?_toArray, List.getElem?_cons_succ, List.getElem?_cons_zero]; rfl
          case hw96 => rfl
          case hq96 => exact fun _ _ _ h => h
          case hy96 => intro w hSw; (try dsimp only at hSw); go_simp; (try with_reducible rfl)
          (try simp only [Act.put, List.setIfInBounds_toArray, List.set_cons_zero, List.set_cons_succ])
          refine wpAnyH_take (i := 26) (oi := ?oi97) (v := ?v97) ?hi97 (by kernel_rfl) (by kernel_rfl) (by kernel_rfl) ?hq97 (Or.inl ⟨?hw97, ?hy97⟩) (by assumption) ?_
          case hi97 => simp only [List.getElem?_toArray, List.getElem?_cons_succ, List.getElem?_cons_zero]; rfl
          case hw97 => rfl
          case hq97 => exact fun _ _ _ h => h
          case hy97 => intro w hSw; (try dsimp only at hSw); go_simp; (try with_reducible rfl)
          (try simp only [Act.put, List.setIfInBounds_toArray, List.set_cons_zero, List.set_cons_succ])
          refine wpAnyH_take (i := 27) (oi := ?oi98) (v := ?v98) ?hi98 (by kernel_rfl) (by kernel_rfl) (by kernel_rfl) ?hq98 (Or.inl ⟨?hw98, ?hy98⟩) (by assumption) ?_
          case hi98 => simp only [List.getElem?_toArray, List.getElem?_cons_succ, List.getElem?_cons_zero]; rfl
          case hw98 => rfl
          case hq98 => exact fun _ _ _ h => h
          case hy98 => intro w hSw; (try dsimp only at hSw); go_simp; (try with_reducible rfl)
          (try simp only [Act.put, List.setIfInBounds_toArray, List.set_cons_zero, List.set_cons_succ])
          refine wpAnyH_take (i := 28) (oi := ?oi99) (v := ?v99) ?hi99 (by kernel_rfl) (by kernel_rfl) (by kernel_rfl) ?hq99 (Or.inl ⟨?hw99, ?hy99⟩) (by assumption) ?_
          case hi99 => simp only [List.getElem?_toArray, List.getElem?_cons_succ, List.getElem?_cons_zero]; rfl
          case hw99 => rfl
          case hq99 => exact fun _ _ _ h => h
          case hy99 => intro w hSw; (try dsimp only at hSw); go_simp; (try with_reducible rfl)
          (try simp only [Act.put, List.setIfInBounds_toArray, List.set_cons_zero, List.set_cons_succ])
          refine wpAnyH_take (i := 29) (oi := ?oi100) (v := ?v100) ?hi100 (by kernel_rfl) (by kernel_rfl) (by kernel_rfl) ?hq100 (Or.inl ⟨?hw100, ?hy100⟩) (by assumption) ?_
          case hi100 => simp only [List.getElem?_toArray, List.getElem?_cons_succ, List.getElem?_cons_zero]; rfl
          case hw100 => rfl
          case hq100 => exact fun _ _ _ h => h
          case hy100 => intro w hSw; (try dsimp only at hSw); go_simp; (try with_reducible rfl)
          (try simp only [Act.put, List.setIfInBounds_toArray, List.set_cons_zero, List.set_cons_succ])
          refine wpAnyH_take (i := 30) (oi := ?oi101) (v := ?v101) ?hi101 (by kernel_rfl) (by kernel_rfl) (by kernel_rfl) ?hq101 (Or.inl ⟨?hw101, ?hy101⟩) (by assumption) ?_
          case hi101 => simp only [List.getElem?_toArray, List.getElem?_cons_succ, List.getElem?_cons_zero]; rfl
          case hw101 => rfl
          case hq101 => exact fun _ _ _ h => h
          case hy101 => intro w hSw; (try dsimp only at hSw); go_simp; (try with_reducible rfl)
          (try simp only [Act.put, List.setIfInBounds_toArray, List.set_cons_zero, List.set_cons_succ])
          refine wpAnyH_take (i := 31) (oi := ?oi102) (v := ?v102) ?hi102 (by kernel_rfl) (by kernel_rfl) (by kernel_rfl) ?hq102 (Or.inl ⟨?hw102, ?hy102⟩) (by assumption) ?_
          case hi102 => simp only [List.getElem?_toArray, List.getElem?_cons_succ, List.getElem?_cons_zero]; rfl
          case hw102 => rfl
          case hq102 => exact fun _ _ _ h => h
          case hy102 => intro w hSw; (try dsimp only at hSw); go_simp; (try with_reducible rfl)
          (try simp only [Act.put, List.setIfInBounds_toArray, List.set_cons_zero, List.set_cons_succ])
          refine wpAnyH_ready (rs := [32]) (by kernel_rfl) (by simp) ?_
          refine AllReadyH.cons (o := ?o103) ?ho103 (fun K hK => ?_) AllReadyH.nil
          case ho103 => simp only [List.getElem?_toArray, List.getElem?_cons_succ, List.getElem?_cons_zero]; rfl
          go_simp
          (go_at_call 16; (with_reducible refine (to_boolN (ValidReader_any ((x1.out.drew.below HRg10.out (by first | omega | (simp; omega) | (simp; done))).below HRg11.out (by first | omega | (simp; omega) | (simp; done))) ((x2.out.drew.below HRg10.out (by first | omega | (simp; omega) | (simp; done))).below HRg11.out (by first | omega | (simp; omega) | (simp; done))) ((x3.out.drew.below HRg10.out (by first | omega | (simp; omega) | (simp; done))).below HRg11.out (by first | omega | (simp; omega) | (simp; done))) (by first | omega | (simp; omega) | (simp; done)) (by first | omega | (simp; omega) | (simp; done)) (by first | omega | (simp; omega) | (simp; done)) hcx) VX.out).mono ?_); rintro e wg12 ⟨rfl, hb⟩; (try simp only [World.size_alloc, World.size_setCell, World.size_drew] at hb); have HRg12 := Lib.hid hb; have srg12 := hb.size; (try simp only [World.size_alloc, World.size_setCell, World.size_drew] at srg12); have Yxg12 := Lib.hid (Yxg11.out.below hb (by omega)); have Ydg12 := Lib.hid (Ydg11.out.below hb (by omega)); clear hb; have vx0 := (Yxg12.out.2 0 _ rfl).1; have vx1 := (Yxg12.out.2 1 _ rfl).1; have vx2 := (Yxg12.out.2 2 _ rfl).1; have vx3 := (Yxg12.out.2 3 _ rfl).1; have vx4 := (Yxg12.out.2 4 _ rfl).1; have vx5 := (Yxg12.out.2 5 _ rfl).1; have vd0 := (Ydg12.out.2 0 _ rfl).1; have vd1 := (Ydg12.out.2 1 _ rfl).1; have vd2 := (Ydg12.out.2 2 _ rfl).1; have vd3 := (Ydg12.out.2 3 _ rfl).1; have vd4 := (Ydg12.out.2 4 _ rfl).1; have vd5 := (Ydg12.out.2 5 _ rfl).1)
          clear hHeld
          refine hK.out _ _ (by (try dsimp only); go_keep) (fun hHeld => ?_)
          clear hK K
          (try simp only [Act.put, List.setIfInBounds_toArray, List.set_cons_zero, List.set_cons_succ])
          refine wpAnyH_take (i := 33) (oi := ?oi104) (v := ?v104) ?hi104 (by kernel_rfl) (by kernel_rfl) (by kernel_rfl) ?hq104 (Or.inl ⟨?hw104, ?hy104⟩) (by assumption) ?_
          case hi104 => simp only [List.getElem?_toArray, List.getElem?_cons_succ, List.getElem?_cons_zero]; rfl
          case hw104 => rfl
          case hq104 => exact fun _ _ _ h => h
          case hy104 => intro w hSw; (try dsimp only at hSw); go_simp; (try with_reducible rfl)
          (try simp only [Act.put, List.setIfInBounds_toArray, List.set_cons_zero, List.set_cons_succ])
          refine wpAnyH_take (i := 34) (oi := ?oi105) (v := ?v105) ?hi105 (by kernel_rfl) (by kernel_rfl) (by kernel_rfl) ?hq105 (Or.inl ⟨?hw105, ?hy105⟩) (by assumption) ?_
          case hi105 => simp only [List.getElem?_toArray, List.getElem?_cons_succ, List.getElem?_cons_zero]; rfl
          case hw105 => rfl
          case hq105 => exact fun _ _ _ h => h
          case hy105 => intro w hSw; (try dsimp only at hSw); go_simp; (try with_reducible rfl)
          (try simp only [Act.put, List.setIfInBounds_toArray, List.set_cons_zero, List.set_cons_succ])
          refine wpAnyH_done (by kernel_rfl) ?_ _
          go_wp2
          go_ret
          exact ⟨rfl, (below_step HRg12.out (below_step HRg11.out (below_step HRg10.out EB.out.drew (by first | omega | (simp; omega) | (simp; done))) (by first | omega | (simp; omega) | (simp; done))) (by first | omega | (simp; omega) | (simp; done)))⟩
        · refine (to_rbR (SeekReader_x d1.out d2.out d3.out (by omega) (by omega) (by omega) hcd hcd' hkd (by omega) (by omega) (by omega) (by unfold okInt; omega) (by unfold okInt; omega)) HO.out).mono ?_
          rintro e w3 ⟨Ax, nx, cx, Ax', nx', cx', Ex, mx, kx, rfl, ⟨hcx, hcx', hkx⟩, hb, hd, hd', hr⟩
          (try simp only [World.size_alloc, World.size_setCell, World.size_drew] at hb)
          have HB := Lib.hid hb
          clear hb
          have s3 := HB.out.size
          (try simp only [World.size_alloc, World.size_setCell, World.size_drew] at s3)
          replace d1 := Lib.hid (d1.out.below HB.out (by omega))
          replace d2 := Lib.hid (d2.out.below HB.out (by omega))
          replace d3 := Lib.hid (d3.out.below HB.out (by omega))
          replace Bd := Lib.hid (Bd.out.below HB.out (by omega))
          replace EB := Lib.hid (below_step HB.out EB.out (by omega))
          clear HB
          have x1 := Lib.hid hd
          have x2 := Lib.hid hd'
          have x3 := Lib.hid hr
          clear hd hd' hr
          have vdl := Bd.out.lt
          have vd0 := (Bd.out.2 0 _ rfl).1
          have vd1 := (Bd.out.2 1 _ rfl).1
          have vd2 := (Bd.out.2 2 _ rfl).1
          have vd3 := (Bd.out.2 3 _ rfl).1
          have vd4 := (Bd.out.2 4 _ rfl).1
          have vd5 := (Bd.out.2 5 _ rfl).1
          go_wp2_with fail
          clear vdl vd0 vd1 vd2 vd3 vd4 vd5
          replace d1 := Lib.hid (d1.out.alloc (by omega) (.cells #[.slice Ax nx cx, .int .i64 (P), .slice Ax' nx' cx', .int .i64 (qd), .slice Ex mx kx, .int .i64 (yd)] 27))
          replace d2 := Lib.hid (d2.out.alloc (by omega) (.cells #[.slice Ax nx cx, .int .i64 (P), .slice Ax' nx' cx', .int .i64 (qd), .slice Ex mx kx, .int .i64 (yd)] 27))
          replace d3 := Lib.hid (d3.out.alloc (by omega) (.cells #[.slice Ax nx cx, .int .i64 (P), .slice Ax' nx' cx', .int .i64 (qd), .slice Ex mx kx, .int .i64 (yd)] 27))
          replace Bd := Lib.hid (Bd.out.alloc (.cells #[.slice Ax nx cx, .int .i64 (P), .slice Ax' nx' cx', .int .i64 (qd), .slice Ex mx kx, .int .i64 (yd)] 27))
          replace x1 := Lib.hid (x1.out.alloc (by omega) (.cells #[.slice Ax nx cx, .int .i64 (P), .slice Ax' nx' cx', .int .i64 (qd), .slice Ex mx kx, .int .i64 (yd)] 27))
          replace x2 := Lib.hid (x2.out.alloc (by omega) (.cells #[.slice Ax nx cx, .int .i64 (P), .slice Ax' nx' cx', .int .i64 (qd), .slice Ex mx kx, .int .i64 (yd)] 27))
          replace x3 := Lib.hid (x3.out.alloc (by omega) (.cells #[.slice Ax nx cx, .int .i64 (P), .slice Ax' nx' cx', .int .i64 (qd), .slice Ex mx kx, .int .i64 (yd)] 27))
          replace EB := Lib.hid (EB.out.alloc (by omega) (.cells #[.slice Ax nx cx, .int .i64 (P), .slice Ax' nx' cx', .int .i64 (qd), .slice Ex mx kx, .int .i64 (yd)] 27))
          have Bx := Lib.hid (Box.new w3 27 [.slice Ax nx cx, .int .i64 (P), .slice Ax' nx' cx', .int .i64 (qd), .slice Ex mx kx, .int .i64 (yd)])
          have s4 : w3.heap.size + 1 ≤ (w3.alloc (.cells #[.slice Ax nx cx, .int .i64 (P), .slice Ax' nx' cx', .int .i64 (qd), .slice Ex mx kx, .int .i64 (yd)] 27)).heap.size := by simp
          generalize w3.alloc (.cells #[.slice Ax nx cx, .int .i64 (P), .slice Ax' nx' cx', .int .i64 (qd), .slice Ex mx kx, .int .i64 (yd)] 27) = w4 at *
          refine (to_rbR (SSeekReader_x d1.out d2.out d3.out (by omega) (by omega) (by omega) hcd hcd' hkd (by omega) (by omega) (by omega) (by unfold okInt; omega) (by unfold okInt; omega)) HO.out).mono ?_
          rintro e w5 ⟨Ay, ny, cy, Ay', ny', cy', Ey, my, ky, rfl, ⟨hcy, hcy', hky⟩, hb, hd, hd', hr⟩
          (try simp only [World.size_alloc, World.size_setCell, World.size_drew] at hb)
          have HB := Lib.hid hb
          clear hb
          have s5 := HB.out.size
          (try simp only [World.size_alloc, World.size_setCell, World.size_drew] at s5)
          replace d1 := Lib.hid (d1.out.below HB.out (by omega))
          replace d2 := Lib.hid (d2.out.below HB.out (by omega))
          replace d3 := Lib.hid (d3.out.below HB.out (by omega))
          replace Bd := Lib.hid (Bd.out.below HB.out (by omega))
          replace x1 := Lib.hid (x1.out.below HB.out (by omega))
          replace x2 := Lib.hid (x2.out.below HB.out (by omega))
          replace x3 := Lib.hid (x3.out.below HB.out (by omega))
          replace Bx := Lib.hid (Bx.out.below HB.out (by omega))
          replace EB := Lib.hid (below_step HB.out EB.out (by omega))
          clear HB
          have y1 := Lib.hid hd
          have y2 := Lib.hid hd'
          have y3 := Lib.hid hr
          clear hd hd' hr
          have vxl := Bx.out.lt
          have vx0 := (Bx.out.2 0 _ rfl).1
          have vx1 := (Bx.out.2 1 _ rfl).1
          have vx2 := (Bx.out.2 2 _ rfl).1
          have vx3 := (Bx.out.2 3 _ rfl).1
          have vx4 := (Bx.out.2 4 _ rfl).1
          have vx5 := (Bx.out.2 5 _ rfl).1
          go_wp2_with fail
          clear vxl vx0 vx1 vx2 vx3 vx4 vx5
          replace d1 := Lib.hid (d1.out.alloc (by omega) (.cells #[.slice Ay ny cy, .int .i64 (P), .slice Ay' ny' cy', .int .i64 (qd), .slice Ey my ky, .int .i64 (yd)] 27))
          replace d2 := Lib.hid (d2.out.alloc (by omega) (.cells #[.slice Ay ny cy, .int .i64 (P), .slice Ay' ny' cy', .int .i64 (qd), .slice Ey my ky, .int .i64 (yd)] 27))
          replace d3 := Lib.hid (d3.out.alloc (by omega) (.cells #[.slice Ay ny cy, .int .i64 (P), .slice Ay' ny' cy', .int .i64 (qd), .slice Ey my ky, .int .i64 (yd)] 27))
          replace Bd := Lib.hid (Bd.out.alloc (.cells #[.slice Ay ny cy, .int .i64 (P), .slice Ay' ny' cy', .int .i64 (qd), .slice Ey my ky, .int .i64 (yd)] 27))
          replace x1 := Lib.hid (x1.out.alloc (by omega) (.cells #[.slice Ay ny cy, .int .i64 (P), .slice Ay' ny' cy', .int .i64 (qd), .slice Ey my ky, .int .i64 (yd)] 27))
          replace x2 := Lib.hid (x2.out.alloc (by omega) (.cells #[.slice Ay ny cy, .int .i64 (P), .slice Ay' ny' cy', .int .i64 (qd), .slice Ey my ky, .int .i64 (yd)] 27))
          replace x3 := Lib.hid (x3.out.alloc (by omega) (.cells #[.slice Ay ny cy, .int .i64 (P), .slice Ay' ny' cy', .int .i64 (qd), .slice Ey my ky, .int .i64 (yd)] 27))
          replace Bx := Lib.hid (Bx.out.alloc (.cells #[.slice Ay ny cy, .int .i64 (P), .slice Ay' ny' cy', .int .i64 (qd), .slice Ey my ky, .int .i64 (yd)] 27))
          replace y1 := Lib.hid (y1.out.alloc (by omega) (.cells #[.slice Ay ny cy, .int .i64 (P), .slice Ay' ny' cy', .int .i64 (qd), .slice Ey my ky, .int .i64 (yd)] 27))
          replace y2 := Lib.hid (y2.out.alloc (by omega) (.cells #[.slice Ay ny cy, .int .i64 (P), .slice Ay' ny' cy', .int .i64 (qd), .slice Ey my ky, .int .i64 (yd)] 27))
          replace y3 := Lib.hid (y3.out.alloc (by omega) (.cells #[.slice Ay ny cy, .int .i64 (P), .slice Ay' ny' cy', .int .i64 (qd), .slice Ey my ky, .int .i64 (yd)] 27))
          replace EB := Lib.hid (EB.out.alloc (by omega) (.cells #[.slice Ay ny cy, .int .i64 (P), .slice Ay' ny' cy', .int .i64 (qd), .slice Ey my ky, .int .i64 (yd)] 27))
          have By := Lib.hid (Box.new w5 27 [.slice Ay ny cy, .int .i64 (P), .slice Ay' ny' cy', .int .i64 (qd), .slice Ey my ky, .int .i64 (yd)])
          have s6 : w5.heap.size + 1 ≤ (w5.alloc (.cells #[.slice Ay ny cy, .int .i64 (P), .slice Ay' ny' cy', .int .i64 (qd), .slice Ey my ky, .int .i64 (yd)] 27)).heap.size := by simp
          generalize w5.alloc (.cells #[.slice Ay ny cy, .int .i64 (P), .slice Ay' ny' cy', .int .i64 (qd), .slice Ey my ky, .int .i64 (yd)] 27) = w6 at *
          refine (equalReader_same x1.out x2.out x3.out y1.out y2.out y3.out (by omega) (by omega) (by omega) (by omega) (by omega) (by omega)).mono ?_
          rintro e w7 ⟨rfl, hb⟩
          (try simp only [World.size_alloc, World.size_setCell, World.size_drew] at hb)
          have HB := Lib.hid hb
          clear hb
          have s7 := HB.out.size
          (try simp only [World.size_alloc, World.size_setCell, World.size_drew] at s7)
          replace d1 := Lib.hid (d1.out.below HB.out (by omega))
          replace d2 := Lib.hid (d2.out.below HB.out (by omega))
          replace d3 := Lib.hid (d3.out.below HB.out (by omega))
          replace Bd := Lib.hid (Bd.out.below HB.out (by omega))
          replace x1 := Lib.hid (x1.out.below HB.out (by omega))
          replace x2 := Lib.hid (x2.out.below HB.out (by omega))
          replace x3 := Lib.hid (x3.out.below HB.out (by omega))
          replace Bx := Lib.hid (Bx.out.below HB.out (by omega))
          replace y1 := Lib.hid (y1.out.below HB.out (by omega))
          replace y2 := Lib.hid (y2.out.below HB.out (by omega))
          replace y3 := Lib.hid (y3.out.below HB.out (by omega))
          replace By := Lib.hid (By.out.below HB.out (by omega))
          replace EB := Lib.hid (below_step HB.out EB.out (by omega))
          clear HB
          have hmx : mx ≤ 16 := by rw [x3.out.len]; exact R1L.out
          have vxl := Bx.out.lt
          have vx0 := (Bx.out.2 0 _ rfl).1
          have vx1 := (Bx.out.2 1 _ rfl).1
          have vx2 := (Bx.out.2 2 _ rfl).1
          have vx3 := (Bx.out.2 3 _ rfl).1
          have vx4 := (Bx.out.2 4 _ rfl).1
          have vx5 := (Bx.out.2 5 _ rfl).1
          go_wp2_with fail
          refine (to_intN (TellReader_x x1.out x2.out x3.out (by omega) (by omega) (by omega) hcx) TX.out).mono ?_
          clear vxl vx0 vx1 vx2 vx3 vx4 vx5
          rintro e w8 ⟨rfl, hb⟩
          (try simp only [World.size_alloc, World.size_setCell, World.size_drew] at hb)
          have HB := Lib.hid hb
          clear hb
          have s8 := HB.out.size
          (try simp only [World.size_alloc, World.size_setCell, World.size_drew] at s8)
          replace d1 := Lib.hid (d1.out.below HB.out (by omega))
          replace d2 := Lib.hid (d2.out.below HB.out (by omega))
          replace d3 := Lib.hid (d3.out.below HB.out (by omega))
          replace Bd := Lib.hid (Bd.out.below HB.out (by omega))
          replace x1 := Lib.hid (x1.out.below HB.out (by omega))
          replace x2 := Lib.hid (x2.out.below HB.out (by omega))
          replace x3 := Lib.hid (x3.out.below HB.out (by omega))
          replace Bx := Lib.hid (Bx.out.below HB.out (by omega))
          replace y1 := Lib.hid (y1.out.below HB.out (by omega))
          replace y2 := Lib.hid (y2.out.below HB.out (by omega))
          replace y3 := Lib.hid (y3.out.below HB.out (by omega))
          replace By := Lib.hid (By.out.below HB.out (by omega))
          replace EB := Lib.hid (below_step HB.out EB.out (by omega))
          clear HB
          have vdl := Bd.out.lt
          have vd0 := (Bd.out.2 0 _ rfl).1
          have vd1 := (Bd.out.2 1 _ rfl).1
          have vd2 := (Bd.out.2 2 _ rfl).1
          have vd3 := (Bd.out.2 3 _ rfl).1
          have vd4 := (Bd.out.2 4 _ rfl).1
          have vd5 := (Bd.out.2 5 _ rfl).1
          go_wp2_with fail
          refine (to_intN (TellReader_x d1.out d2.out d3.out (by omega) (by omega) (by omega) hcd) TD.out).mono ?_
          clear vdl vd0 vd1 vd2 vd3 vd4 vd5
          rintro e w9 ⟨rfl, hb⟩
          (try simp only [World.size_alloc, World.size_setCell, World.size_drew] at hb)
          have HB := Lib.hid hb
          clear hb
          have s9 := HB.out.size
          (try simp only [World.size_alloc, World.size_setCell, World.size_drew] at s9)
          replace d1 := Lib.hid (d1.out.below HB.out (by omega))
          replace d2 := Lib.hid (d2.out.below HB.out (by omega))
          replace d3 := Lib.hid (d3.out.below HB.out (by omega))
          replace Bd := Lib.hid (Bd.out.below HB.out (by omega))
          replace x1 := Lib.hid (x1.out.below HB.out (by omega))
          replace x2 := Lib.hid (x2.out.below HB.out (by omega))
          replace x3 := Lib.hid (x3.out.below HB.out (by omega))
          replace Bx := Lib.hid (Bx.out.below HB.out (by omega))
          replace y1 := Lib.hid (y1.out.below HB.out (by omega))
          replace y2 := Lib.hid (y2.out.below HB.out (by omega))
          replace y3 := Lib.hid (y3.out.below HB.out (by omega))
          replace By := Lib.hid (By.out.below HB.out (by omega))
          replace EB := Lib.hid (below_step HB.out EB.out (by omega))
          clear HB
          have hnt : T ≤ nd := by omega
          have hnti : ((T : Nat) : Int) ≤ (nd : Int) := by omega
          have hntc : ((T : Nat) : Int) ≤ (cd : Int) := by omega
          have vxl := Bx.out.lt
          have vx0 := (Bx.out.2 0 _ rfl).1
          have vx1 := (Bx.out.2 1 _ rfl).1
          have vx2 := (Bx.out.2 2 _ rfl).1
          have vx3 := (Bx.out.2 3 _ rfl).1
          have vx4 := (Bx.out.2 4 _ rfl).1
          have vx5 := (Bx.out.2 5 _ rfl).1
          have vdl := Bd.out.lt
          have vd0 := (Bd.out.2 0 _ rfl).1
          have vd1 := (Bd.out.2 1 _ rfl).1
          have vd2 := (Bd.out.2 2 _ rfl).1
          have vd3 := (Bd.out.2 3 _ rfl).1
          have vd4 := (Bd.out.2 4 _ rfl).1
          have vd5 := (Bd.out.2 5 _ rfl).1
          go_wp2_with fail
          refine wp_region_held_drew (S := (fun w' => (w'.cell? ⟨w3.heap.size, 0, none⟩ = some (.slice Ax nx cx) ∧ w'.cell? ⟨w3.heap.size, 1, none⟩ = some (.int .i64 (P)) ∧ w'.cell? ⟨w3.heap.size, 2, none⟩ = some (.slice Ax' nx' cx') ∧ w'.cell? ⟨w3.heap.size, 3, none⟩ = some (.int .i64 (qd)) ∧ w'.cell? ⟨w3.heap.size, 4, none⟩ = some (.slice Ex mx kx) ∧ w'.cell? ⟨w3.heap.size, 5, none⟩ = some (.int .i64 (yd))) ∧ (w'.cell? ⟨w1.heap.size, 0, none⟩ = some (.slice Ad nd cd) ∧ w'.cell? ⟨w1.heap.size, 1, none⟩ = some (.int .i64 (P)) ∧ w'.cell? ⟨w1.heap.size, 2, none⟩ = some (.slice Ad' nd' cd') ∧ w'.cell? ⟨w1.heap.size, 3, none⟩ = some (.int .i64 (qd)) ∧ w'.cell? ⟨w1.heap.size, 4, none⟩ = some (.slice Ed md kd) ∧ w'.cell? ⟨w1.heap.size, 5, none⟩ = some (.int .i64 (yd))))) (by kernel_rfl) (by (try dsimp only); go_keep) (fun hHeld => ?_)
          refine wpAnyH_take (i := 0) (oi := ?oi106) (v := ?v106) ?hi106 (by kernel_rfl) (by kernel_rfl) (by kernel_rfl) ?hq106 (Or.inl ⟨?hw106, ?hy106⟩) (by assumption) ?_
          case hi106 => simp only [List.getElem?_toArray, List.getElem?_cons_succ, List.getElem?_cons_zero]; rfl
          case hw106 => rfl
          case hq106 => exact fun _ _ _ h => h
          case hy106 => intro w hSw; (try dsimp only at hSw); go_simp; (try with_reducible rfl)
          (try simp only [Act.put, List.setIfInBounds_toArray, List.set_cons_zero, List.set_cons_succ])
          refine wpAnyH_take (i := 2) (oi := ?oi107) (v := ?v107) ?hi107 (by kernel_rfl) (by kernel_rfl) (by kernel_rfl) ?hq107 (Or.inl ⟨?hw107, ?hy107⟩) (by assumption) ?_
          case hi107 => simp only [List.getElem?_toArray, List.getElem?_cons_succ, List.getElem?_cons_zero]; rfl
          case hw107 => rfl
          case hq107 => exact fun _ _ _ h => h
          case hy107 => intro w hSw; (try dsimp only at hSw); go_simp; (try with_reducible rfl)
          (try simp only [Act.put, List.setIfInBounds_toArray, List.set_cons_zero, List.set_cons_succ])
          refine wpAnyH_take (i := 3) (oi := ?oi108) (v := ?v108) ?hi108 (by kernel_rfl) (by kernel_rfl) (by kernel_rfl) ?hq108 (Or.inl ⟨?hw108, ?hy108⟩) (by assumption) ?_
          case hi108 => simp only [List.getElem?_toArray, List.getElem?_cons_succ, List.getElem?_cons_zero]; rfl
          case hw108 => rfl
          case hq108 => exact fun _ _ _ h => h
          case hy108 => intro w hSw; (try dsimp only at hSw); go_simp; (try with_reducible rfl)
          (try simp only [Act.put, List.setIfInBounds_toArray, List.set_cons_zero, List.set_cons_succ])
          refine wpAnyH_take (i := 4) (oi := ?oi109) (v := ?v109) ?hi109 (by kernel_rfl) (by kernel_rfl) (by kernel_rfl) ?hq109 (Or.inl ⟨?hw109, ?hy109⟩) (by assumption) ?_
          case hi109 => simp only [List.getElem?_toArray, List.getElem?_cons_succ, List.getElem?_cons_zero]; rfl
          case hw109 => rfl
          case hq109 => exact fun _ _ _ h => h
          case hy109 => intro w hSw; (try dsimp only at hSw); go_simp; (try with_reducible rfl)
          (try simp only [Act.put, List.setIfInBounds_toArray, List.set_cons_zero, List.set_cons_succ])
          refine wpAnyH_take (i := 5) (oi := ?oi110) (v := ?v110) ?hi110 (by kernel_rfl) (by kernel_rfl) (by kernel_rfl) ?hq110 (Or.inl ⟨?hw110, ?hy110⟩) (by assumption) ?_
          case hi110 => simp only [List.getElem?_toArray, List.getElem?_cons_succ, List.getElem?_cons_zero]; rfl
          case hw110 => rfl
          case hq110 => exact fun _ _ _ h => h
          case hy110 => intro w hSw; (try dsimp only at hSw); go_simp; (try with_reducible rfl)
          (try simp only [Act.put, List.setIfInBounds_toArray, List.set_cons_zero, List.set_cons_succ])
          refine wpAnyH_take (i := 6) (oi := ?oi111) (v := ?v111) ?hi111 (by kernel_rfl) (by kernel_rfl) (by kernel_rfl) ?hq111 (Or.inl ⟨?hw111, ?hy111⟩) (by assumption) ?_
          case hi111 => simp only [List.getElem?_toArray, List.getElem?_cons_succ, List.getElem?_cons_zero]; rfl
          case hw111 => rfl
          case hq111 => exact fun _ _ _ h => h
          case hy111 => intro w hSw; (try dsimp only at hSw); go_simp; (try with_reducible rfl)
          (try simp only [Act.put, List.setIfInBounds_toArray, List.set_cons_zero, List.set_cons_succ])
          refine wpAnyH_ready (rs := [1]) (by kernel_rfl) (by simp) ?_
          refine AllReadyH.cons (o := ?o112) ?ho112 (fun K hK => ?_) AllReadyH.nil
          case ho112 => simp only [List.getElem?_toArray, List.getElem?_cons_succ, List.getElem?_cons_zero]; rfl
          go_simp
          (go_at_call 15; (with_reducible refine (to_listN (ahead_any x1.out.drew x2.out.drew x3.out.drew (by first | omega | (simp; omega) | (simp; done)) (by first | omega | (simp; omega) | (simp; done)) (by first | omega | (simp; omega) | (simp; done)) hcx (by first | omega | (simp; omega) | (simp; done))) AX.out).mono ?_); rintro e wg10 ⟨As, ns, cs, rfl, hcs, hb, hl⟩; (try simp only [World.size_alloc, World.size_setCell, World.size_drew] at hb hl); have HRg10 := Lib.hid hb; have srg10 := hb.size; (try simp only [World.size_alloc, World.size_setCell, World.size_drew] at srg10); have Yxg10 := Lib.hid (Bx.out.drew.below hb (by omega)); have Ydg10 := Lib.hid (Bd.out.drew.below hb (by omega)); have s1 := Lib.hid hl; clear hb hl; have vx0 := (Yxg10.out.2 0 _ rfl).1; have vx1 := (Yxg10.out.2 1 _ rfl).1; have vx2 := (Yxg10.out.2 2 _ rfl).1; have vx3 := (Yxg10.out.2 3 _ rfl).1; have vx4 := (Yxg10.out.2 4 _ rfl).1; have vx5 := (Yxg10.out.2 5 _ rfl).1; have vd0 := (Ydg10.out.2 0 _ rfl).1; have vd1 := (Ydg10.out.2 1 _ rfl).1; have vd2 := (Ydg10.out.2 2 _ rfl).1; have vd3 := (Ydg10.out.2 3 _ rfl).1; have vd4 := (Ydg10.out.2 4 _ rfl).1; have vd5 := (Ydg10.out.2 5 _ rfl).1)
          clear hHeld
          refine hK.out _ _ (by (try dsimp only); go_keep) (fun hHeld => ?_)
          clear hK K
          (try simp only [Act.put, List.setIfInBounds_toArray, List.set_cons_zero, List.set_cons_succ])
          refine wpAnyH_ready (rs := [7]) (by kernel_rfl) (by simp) ?_
          refine AllReadyH.cons (o := ?o113) ?ho113 (fun K hK => ?_) AllReadyH.nil
          case ho113 => simp only [List.getElem?_toArray, List.getElem?_cons_succ, List.getElem?_cons_zero]; rfl
          go_simp
          (go_at_call 13; (have hcut := Ints.cutIf ((d1.out.drew.below HRg10.out (by first | omega | (simp; omega) | (simp; done)))) hnt hcd; generalize (if cd = T then Ad else Option.map (fun x => x.add T) Ad) = Aw at hcut ⊢); (with_reducible refine (equalInts_same s1.out hcut rfl).mono ?_); rintro e wg11 ⟨rfl, hb⟩; (try simp only [World.size_alloc, World.size_setCell, World.size_drew] at hb); have HRg11 := Lib.hid hb; have srg11 := hb.size; (try simp only [World.size_alloc, World.size_setCell, World.size_drew] at srg11); have Yxg11 := Lib.hid (Yxg10.out.below hb (by omega)); have Ydg11 := Lib.hid (Ydg10.out.below hb (by omega)); clear hb; have vx0 := (Yxg11.out.2 0 _ rfl).1; have vx1 := (Yxg11.out.2 1 _ rfl).1; have vx2 := (Yxg11.out.2 2 _ rfl).1; have vx3 := (Yxg11.out.2 3 _ rfl).1; have vx4 := (Yxg11.out.2 4 _ rfl).1; have vx5 := (Yxg11.out.2 5 _ rfl).1; have vd0 := (Ydg11.out.2 0 _ rfl).1; have vd1 := (Ydg11.out.2 1 _ rfl).1; have vd2 := (Ydg11.out.2 2 _ rfl).1; have vd3 := (Ydg11.out.2 3 _ rfl).1; have vd4 := (Ydg11.out.2 4 _ rfl).1; have vd5 := (Ydg11.out.2 5 _ rfl).1)
          clear hHeld
          refine hK.out _ _ (by (try dsimp only); go_keep) (fun hHeld => ?_)
          clear hK K
          (try simp only [Act.put, List.setIfInBounds_toArray, List.set_cons_zero, List.set_cons_succ])
          refine wpAnyH_take (i := 8) (oi := ?oi114) (v := ?v114) ?hi114 (by kernel_rfl) (by kernel_rfl) (by kernel_rfl) ?hq114 (Or.inl ⟨?hw114, ?hy114⟩) (by assumption) ?_
          case hi114 => simp only [List.getElem?_toArray, List.getElem?_cons_succ, List.getElem?_cons_zero]; rfl
          case hw114 => rfl
          case hq114 => exact fun _ _ _ h => h
          case hy114 => intro w hSw; (try dsimp only at hSw); go_simp; (try with_reducible rfl)
          (try simp only [Act.put, List.setIfInBounds_toArray, List.set_cons_zero, List.set_cons_succ])
          refine wpAnyH_take (i := 9) (oi := ?oi115) (v := ?v115) ?hi115 (by kernel_rfl) (by kernel_rfl) (by kernel_rfl) ?hq115 (Or.inl ⟨?hw115, ?hy115⟩) (by assumption) ?_
          case hi115 => simp only [List.getElem?_toArray, List.getElem?_cons_succ, List.getElem?_cons_zero]; rfl
          case hw115 => rfl
          case hq115 => exact fun _ _ _ h => h
          case hy115 => intro w hSw; (try dsimp only at hSw); go_simp; (try with_reducible rfl)
          (try simp only [Act.put, List.setIfInBounds_toArray, List.set_cons_zero, List.set_cons_succ])
          refine wpAnyH_take (i := 10) (oi := ?oi116) (v := ?v116) ?hi116 (by kernel_rfl) (by kernel_rfl) (by kernel_rfl) ?hq116 (Or.inl ⟨?hw116, ?hy116⟩) (by assumption) ?_
          case hi116 => simp only [List.getElem?_toArray, List.getElem?_cons_succ, List.getElem?_cons_zero]; rfl
          case hw116 => rfl
          case hq116 => exact fun _ _ _ h => h
          case hy116 => intro w hSw; (try dsimp only at hSw); go_simp; (try with_reducible rfl)
          (try simp only [Act.put, List.setIfInBounds_toArray, List.set_cons_zero, List.set_cons_succ])
          refine wpAnyH_take (i := 11) (oi := ?oi117) (v := ?v117) ?hi117 (by kernel_rfl) (by kernel_rfl) (by kernel_rfl) ?hq117 (Or.inl ⟨?hw117, ?hy117⟩) (by assumption) ?_
          case hi117 => simp only [List.getElem?_toArray, List.getElem?_cons_succ, List.getElem?_cons_zero]; rfl
          case hw117 => rfl
          case hq117 => exact fun _ _ _ h => h
          case hy117 => intro w hSw; (try dsimp only at hSw); go_simp; (try with_reducible rfl)
          (try simp only [Act.put, List.setIfInBounds_toArray, List.set_cons_zero, List.set_cons_succ])
          refine wpAnyH_take (i := 12) (oi := ?oi118) (v := ?v118) ?hi118 (by kernel_rfl) (by kernel_rfl) (by kernel_rfl) ?hq118 (Or.inl ⟨?hw118, ?hy118⟩) (by assumption) ?_
          case hi118 => simp only [List.getElem?_toArray, List.getElem?_cons_succ, List.getElem?_cons_zero]; rfl
          case hw118 => rfl
          case hq118 => exact fun _ _ _ h => h
          case hy118 => intro w hSw; (try dsimp only at hSw); go_simp; (try with_reducible rfl)
          (try simp only [Act.put, List.setIfInBounds_toArray, List.set_cons_zero, List.set_cons_succ])
          refine wpAnyH_take (i := 13) (oi := ?oi119) (v := ?v119) ?hi119 (by kernel_rfl) (by kernel_rfl) (by kernel_rfl) ?hq119 (Or.inl ⟨?hw119, ?hy119⟩) (by assumption) ?_
          case hi119 => simp only [List.getElem?_toArray, List.getElem?_cons_succ, List.getElem?_cons_zero]; rfl
          case hw119 => rfl
          case hq119 => exact fun _ _ _ h => h
          case hy119 => intro w hSw; (try dsimp only at hSw); go_simp; (try with_reducible rfl)
          (try simp only [Act.put, List.setIfInBounds_toArray, List.set_cons_zero, List.set_cons_succ])
          refine wpAnyH_take (i := 14) (oi := ?oi120) (v := ?v120) ?hi120 (by kernel_rfl) (by kernel_rfl) (by kernel_rfl) ?hq120 (Or.inl ⟨?hw120, ?hy120⟩) (by assumption) ?_
          case hi120 => simp only [List.getElem?_toArray, List.getElem?_cons_succ, List.getElem?_cons_zero]; rfl
          case hw120 => rfl
          case hq120 => exact fun _ _ _ h => h
          case hy120 => intro w hSw; (try dsimp only at hSw); go_simp; (try with_reducible rfl)
          (try simp only [Act.put, List.setIfInBounds_toArray, List.set_cons_zero, List.set_cons_succ])
          refine wpAnyH_take (i := 15) (oi := ?oi121) (v := ?v121) ?hi121 (by kernel_rfl) (by kernel_rfl) (by kernel_rfl) ?hq121 (Or.inl ⟨?hw121, ?hy121⟩) (by assumption) ?_
          case hi121 => simp only [List.getElem?_toArray, List.getElem?_cons_succ, List.getElem?_cons_zero]; rfl
          case hw121 => rfl
          case hq121 => exact fun _ _ _ h => h
          case hy121 => intro w hSw; (try dsimp only at hSw); go_simp; (try with_reducible rfl)
          (try simp only [Act.put, List.setIfInBounds_toArray, List.set_cons_zero, List.set_cons_succ])
          refine wpAnyH_take (i := 16) (oi := ?oi122) (v := ?v122) ?hi122 (by kernel_rfl) (by kernel_rfl) (by kernel_rfl) ?hq122 (Or.inl ⟨?hw122, ?hy122⟩) (by assumption) ?_
          case hi122 => simp only [List.getElem?_toArray, List.getElem?_cons_succ, List.getElem?_cons_zero]; rfl
          case hw122 => rfl
          case hq122 => exact fun _ _ _ h => h
          case hy122 => intro w hSw; (try dsimp only at hSw); go_simp; (try with_reducible rfl)
          (try simp only [Act.put, List.setIfInBounds_toArray, List.set_cons_zero, List.set_cons_succ])
          refine wpAnyH_take (i := 17) (oi := ?oi123) (v := ?v123) ?hi123 (by kernel_rfl) (by kernel_rfl) (by kernel_rfl) ?hq123 (Or.inl ⟨?hw123, ?hy123⟩) (by assumption) ?_
          case hi123 => simp only [List.getElem?_toArray, List.getElem?_cons_succ, List.getElem?_cons_zero]; rfl
          case hw123 => rfl
          case hq123 => exact fun _ _ _ h => h
          case hy123 => intro w hSw; (try dsimp only at hSw); go_simp; (try with_reducible rfl)
          (try simp only [Act.put, List.setIfInBounds_toArray, List.set_cons_zero, List.set_cons_succ])
          refine wpAnyH_take (i := 18) (oi := ?oi124) (v := ?v124) ?hi124 (by kernel_rfl) (by kernel_rfl) (by kernel_rfl) ?hq124 (Or.inl ⟨?hw124, ?hy124⟩) (by assumption) ?_
          case hi124 => simp only [List.getElem?_toArray, List.getElem?_cons_succ, List.getElem?_cons_zero]; rfl
          case hw124 => rfl
          case hq124 => exact fun _ _ _ h => h
          case hy124 => intro w hSw; (try dsimp only at hSw); go_simp; (try with_reducible rfl)
          (try simp only [Act.put, List.setIfInBounds_toArray, List.set_cons_zero, List.set_cons_succ])
          refine wpAnyH_take (i := 19) (oi := ?oi125) (v := ?v125) ?hi125 (by kernel_rfl) (by kernel_rfl) (by kernel_rfl) ?hq125 (Or.inl ⟨?hw125, ?hy125⟩) (by assumption) ?_
          case hi125 => simp only [List.getElem?_toArray, List.getElem?_cons_succ, List.getElem?_cons_zero]; rfl
          case hw125 => rfl
          case hq125 => exact fun _ _ _ h => h
          case hy125 => intro w hSw; (try dsimp only at hSw); go_simp; (try with_reducible rfl)
          (try simp only [Act.put, List.setIfInBounds_toArray, List.set_cons_zero, List.set_cons_succ])
          refine wpAnyH_take (i := 20) (oi := ?oi126) (v := ?v126) ?hi126 (by kernel_rfl) (by kernel_rfl) (by kernel_rfl) ?hq126 (Or.inl ⟨?hw126, ?hy126⟩) (by assumption) ?_
          case hi126 => simp only [List.getElem?_toArray, List.getElem?_cons_succ, List.getElem?_cons_zero]; rfl
          case hw126 => rfl
          case hq126 => exact fun _ _ _ h => h
          case hy126 => intro w hSw; (try dsimp only at hSw); go_simp; (try with_reducible rfl)
          (try simp only [Act.put, List.setIfInBounds_toArray, List.set_cons_zero, List.set_cons_succ])
          refine wpAnyH_take (i := 21) (oi := ?oi127) (v := ?v127) ?hi127 (by kernel_rfl) (by kernel_rfl) (by kernel_rfl) ?hq127 (Or.inl ⟨?hw127, ?hy127⟩) (by assumption) ?_
          case hi127 => simp only [List.getElem?_toArray, List.getElem?_cons_succ, List.getElem?_cons_zero]; rfl
          case hw127 => rfl
          case hq127 => exact fun _ _ _ h => h
          case hy127 => intro w hSw; (try dsimp only at hSw); go_simp; (try with_reducible rfl)
          (try simp only [Act.put, List.setIfInBounds_toArray, List.set_cons_zero, List.set_cons_succ])
          refine wpAnyH_take (i := 22) (oi := ?oi128) (v := ?v128) ?hi128 (by kernel_rfl) (by kernel_rfl) (by kernel_rfl) ?hq128 (Or.inl ⟨?hw128, ?hy128⟩) (by assumption) ?_
          case hi128 => simp only [List.getElem?_toArray, List.getElem?_cons_succ, List.getElem?_cons_zero]; rfl
          case hw128 => rfl
          case hq128 => exact fun _ _ _ h => h
          case hy128 => intro w hSw; (try dsimp only at hSw); go_simp; (try with_reducible rfl)
          (try simp only [Act.put, List.setIfInBounds_toArray, List.set_cons_zero, List.set_cons_succ])
          refine wpAnyH_take (i := 23) (oi := ?oi129) (v := ?v129) ?hi129 (by kernel_rfl) (by kernel_rfl) (by kernel_rfl) ?hq129 (Or.inl ⟨?hw129, ?hy129⟩) (by assumption) ?_
          case hi129 => simp only [List.getElem?_toArray, List.getElem?_cons_succ, List.getElem?_cons_zero]; rfl
          case hw129 => rfl
          case hq129 => exact fun _ _ _ h => h
          case hy129 => intro w hSw; (try dsimp only at hSw); go_simp; (try with_reducible rfl)
          (try simp only [Act.put, List.setIfInBounds_toArray, List.set_cons_zero, List.set_cons_succ])
          refine wpAnyH_take (i := 24) (oi := ?oi130) (v := ?v130) ?hi130 (by kernel_rfl) (by kernel_rfl) (by kernel_rfl) ?hq130 (Or.inl ⟨?hw130, ?hy130⟩) (by assumption) ?_
          case hi130 => simp only [List.getElem?_toArray, List.getElem?_cons_succ, List.getElem?_cons_zero]; rfl
          case hw130 => rfl
          case hq130 => exact fun _ _ _ h => h
          case hy130 => intro w hSw; (try dsimp only at hSw); go_simp; (try with_reducible rfl)
          (try simp only [Act.put, List.setIfInBounds_toArray, List.set_cons_zero, List.set_cons_succ])
          refine wpAnyH_take (i := 25) (oi := ?oi131) (v := ?v131) ?hi131 (by kernel_rfl) (by kernel_rfl) (by kernel_rfl) ?hq131 (Or.inl ⟨?hw131, ?hy131⟩) (by assumption) ?_
          case hi131 => simp only [List.getElem?_toArray, List.getElem?_cons_succ, List.getElem?_cons_zero]; rfl
          case hw131 => rfl
          case hq131 => exact fun _ _ _ h => h
          case hy131 => intro w hSw; (try dsimp only at hSw); go_simp; (try with_reducible rfl)
          (try simp only [Act.put, List.setIfInBounds_toArray, List.set_cons_zero, List.set_cons_succ])
          refine wpAnyH_take (i := 26) (oi := ?oi132) (v := ?v132) ?hi132 (by kernel_rfl) (by kernel_rfl) (by kernel_rfl) ?hq132 (Or.inl ⟨?hw132, ?hy132⟩) (by assumption) ?_
          case hi132 => simp only [List.getElem?_toArray, List.getElem?_cons_succ, List.getElem?_cons_zero]; rfl
          case hw132 => rfl
          case hq132 => exact fun _ _ _ h => h
          case hy132 => intro w hSw; (try dsimp only at hSw); go_simp; (try with_reducible rfl)
          (try simp only [Act.put, List.setIfInBounds_toArray, List.set_cons_zero, List.set_cons_succ])
          refine wpAnyH_take (i := 27) (oi := ?oi133) (v := ?v133) ?hi133 (by kernel_rfl) (by kernel_rfl) (by kernel_rfl) ?hq133 (Or.inl ⟨?hw133, ?hy133⟩) (by assumption) ?_
          case hi133 => simp only [List.getElem?_toArray, List.getElem?_cons_succ, List.getElem?_cons_zero]; rfl
          case hw133 => rfl
          case hq133 => exact fun _ _ _ h => h
          case hy133 => intro w hSw; (try dsimp only at hSw); go_simp; (try with_reducible rfl)
          (try simp only [Act.put, List.setIfInBounds_toArray, List.set_cons_zero, List.set_cons_succ])
          refine wpAnyH_take (i := 28) (oi := ?oi134) (v := ?v134) ?hi134 (by kernel_rfl) (by kernel_rfl) (by kernel_rfl) ?hq134 (Or.inl ⟨?hw134, ?hy134⟩) (by assumption) ?_
          case hi134 => simp only [List.getElem?_toArray, List.getElem?_cons_succ, List.getElem?_cons_zero]; rfl
          case hw134 => rfl
          case hq134 => exact fun _ _ _ h => h
          case hy134 => intro w hSw; (try dsimp only at hSw); go_simp; (try with_reducible rfl)
          (try simp only [Act.put, List.setIfInBounds_toArray, List.set_cons_zero, List.set_cons_succ])
          refine wpAnyH_take (i := 29) (oi := ?oi135) (v := ?v135) ?hi135 (by kernel_rfl) (by kernel_rfl) (by kernel_rfl) ?hq135 (Or.inl ⟨?hw135, ?hy135⟩) (by assumption) ?_
          case hi135 => simp only [List.getElem?_toArray, List.getElem?_cons_succ, List.getElem?_cons_zero]; rfl
          case hw135 => rfl
          case hq135 => exact fun _ _ _ h => h
          case hy135 => intro w hSw; (try dsimp only at hSw); go_simp; (try with_reducible rfl)
          (try simp only [Act.put, List.setIfInBounds_toArray, List.set_cons_zero, List.set_cons_succ])
          refine wpAnyH_take (i := 30) (oi := ?oi136) (v := ?v136) ?hi136 (by kernel_rfl) (by kernel_rfl) (by kernel_rfl) ?hq136 (Or.inl ⟨?hw136, ?hy136⟩) (by assumption) ?_
          case hi136 => simp only [List.getElem?_toArray, List.getElem?_cons_succ, List.getElem?_cons_zero]; rfl
          case hw136 => rfl
          case hq136 => exact fun _ _ _ h => h
          case hy136 => intro w hSw; (try dsimp only at hSw); go_simp; (try with_reducible rfl)
          (try simp only [Act.put, List.setIfInBounds_toArray, List.set_cons_zero, List.set_cons_succ])
          refine wpAnyH_take (i := 31) (oi := ?oi137) (v := ?v137) ?hi137 (by kernel_rfl) (by kernel_rfl) (by kernel_rfl) ?hq137 (Or.inl ⟨?hw137, ?hy137⟩) (by assumption) ?_
          case hi137 => simp only [List.getElem?_toArray, List.getElem?_cons_succ, List.getElem?_cons_zero]; rfl
          case hw137 => rfl
          case hq137 => exact fun _ _ _ h => h
          case hy137 => intro w hSw; (try dsimp only at hSw); go_simp; (try with_reducible rfl)
          (try simp only [Act.put, List.setIfInBounds_toArray, List.set_cons_zero, List.set_cons_succ])
          refine wpAnyH_ready (rs := [32]) (by kernel_rfl) (by simp) ?_
          refine AllReadyH.cons (o := ?o138) ?ho138 (fun K hK => ?_) AllReadyH.nil
          case ho138 => simp only [List.getElem?_toArray, List.getElem?_cons_succ, List.getElem?_cons_zero]; rfl
          go_simp
          (go_at_call 16; (with_reducible refine (to_boolN (ValidReader_any ((x1.out.drew.below HRg10.out (by first | omega | (simp; omega) | (simp; done))).below HRg11.out (by first | omega | (simp; omega) | (simp; done))) ((x2.out.drew.below HRg10.out (by first | omega | (simp; omega) | (simp; done))).below HRg11.out (by first | omega | (simp; omega) | (simp; done))) ((x3.out.drew.below HRg10.out (by first | omega | (simp; omega) | (simp; done))).below HRg11.out (by first | omega | (simp; omega) | (simp; done))) (by first | omega | (simp; omega) | (simp; done)) (by first | omega | (simp; omega) | (simp; done)) (by first | omega | (simp; omega) | (simp; done)) hcx) VX.out).mono ?_); rintro e wg12 ⟨rfl, hb⟩; (try simp only [World.size_alloc, World.size_setCell, World.size_drew] at hb); have HRg12 := Lib.hid hb; have srg12 := hb.size; (try simp only [World.size_alloc, World.size_setCell, World.size_drew] at srg12); have Yxg12 := Lib.hid (Yxg11.out.below hb (by omega)); have Ydg12 := Lib.hid (Ydg11.out.below hb (by omega)); clear hb; have vx0 := (Yxg12.out.2 0 _ rfl).1; have vx1 := (Yxg12.out.2 1 _ rfl).1; have vx2 := (Yxg12.out.2 2 _ rfl).1; have vx3 := (Yxg12.out.2 3 _ rfl).1; have vx4 := (Yxg12.out.2 4 _ rfl).1; have vx5 := (Yxg12.out.2 5 _ rfl).1; have vd0 := (Ydg12.out.2 0 _ rfl).1; have vd1 := (Ydg12.out.2 1 _ rfl).1; have vd2 := (Ydg12.out.2 2 _ rfl).1; have vd3 := (Ydg12.out.2 3 _ rfl).1; have vd4 := (Ydg12.out.2 4 _ rfl).1; have vd5 := (Ydg12.out.2 5 _ rfl).1)
          clear hHeld
          refine hK.out _ _ (by (try dsimp only); go_keep) (fun hHeld => ?_)
          clear hK K
          (try simp only [Act.put, List.setIfInBounds_toArray, List.set_cons_zero, List.set_cons_succ])
          refine wpAnyH_take (i := 33) (oi := ?oi139) (v := ?v139) ?hi139 (by kernel_rfl) (by kernel_rfl) (by kernel_rfl) ?hq139 (Or.inl ⟨?hw139, ?hy139⟩) (by assumption) ?_
          case hi139 => simp only [List.getElem?_toArray, List.getElem?_cons_succ, List.getElem?_cons_zero]; rfl
          case hw139 => rfl
          case hq139 => exact fun _ _ _ h => h
          case hy139 => intro w hSw; (try dsimp only at hSw); go_simp; (try with_reducible rfl)
          (try simp only [Act.put, List.setIfInBounds_toArray, List.set_cons_zero, List.set_cons_succ])
          refine wpAnyH_take (i := 34) (oi := ?oi140) (v := ?v140) ?hi140 (by kernel_rfl) (by kernel_rfl) (by kernel_rfl) ?hq140 (Or.inl ⟨?hw140, ?hy140⟩) (by assumption) ?_
          case hi140 => simp only [List.getElem?_toArray, List.getElem?_cons_succ, List.getElem?_cons_zero]; rfl
          case hw140 => rfl
          case hq140 => exact fun _ _ _ h => h
          case hy140 => intro w hSw; (try dsimp only at hSw); go_simp; (try with_reducible rfl)
          (try simp only [Act.put, List.setIfInBounds_toArray, List.set_cons_zero, List.set_cons_succ])
          refine wpAnyH_done (by kernel_rfl) ?_ _
          go_wp2
          go_ret
          exact ⟨rfl, (below_step HRg12.out (below_step HRg11.out (below_step HRg10.out EB.out.drew (by first | omega | (simp; omega) | (simp; done))) (by first | omega | (simp; omega) | (simp; done))) (by first | omega | (simp; omega) | (simp; done)))⟩
      · have hTi : (t : Int) ≤ (T : Int) := by omega
        have hTn : t ≤ T := hTt
        have hTpd : decide ((T : Int) ≤ pd) = false := decide_eq_false hTp
        clear HNP
        by_cases hm : nd < T
        · refine (to_rbR (SeekReader_x d1.out d2.out d3.out (by omega) (by omega) (by omega) hcd hcd' hkd (by omega) (by omega) (by omega) (by unfold okInt; omega) (by unfold okInt; omega)) HO.out).mono ?_
          rintro e w3 ⟨Ax, nx, cx, Ax', nx', cx', Ex, mx, kx, rfl, ⟨hcx, hcx', hkx⟩, hb, hd, hd', hr⟩
          (try simp only [World.size_alloc, World.size_setCell, World.size_drew] at hb)
          have HB := Lib.hid hb
          clear hb
          have s3 := HB.out.size
          (try simp only [World.size_alloc, World.size_setCell, World.size_drew] at s3)
          replace d1 := Lib.hid (d1.out.below HB.out (by omega))
          replace d2 := Lib.hid (d2.out.below HB.out (by omega))
          replace d3 := Lib.hid (d3.out.below HB.out (by omega))
          replace Bd := Lib.hid (Bd.out.below HB.out (by omega))
          replace EB := Lib.hid (below_step HB.out EB.out (by omega))
          clear HB
          have x1 := Lib.hid hd
          have x2 := Lib.hid hd'
          have x3 := Lib.hid hr
          clear hd hd' hr
          have vdl := Bd.out.lt
          have vd0 := (Bd.out.2 0 _ rfl).1
          have vd1 := (Bd.out.2 1 _ rfl).1
          have vd2 := (Bd.out.2 2 _ rfl).1
          have vd3 := (Bd.out.2 3 _ rfl).1
          have vd4 := (Bd.out.2 4 _ rfl).1
          have vd5 := (Bd.out.2 5 _ rfl).1
          go_wp2_with fail
          clear vdl vd0 vd1 vd2 vd3 vd4 vd5
          replace d1 := Lib.hid (d1.out.alloc (by omega) (.cells #[.slice Ax nx cx, .int .i64 (P), .slice Ax' nx' cx', .int .i64 (qd), .slice Ex mx kx, .int .i64 (yd)] 27))
          replace d2 := Lib.hid (d2.out.alloc (by omega) (.cells #[.slice Ax nx cx, .int .i64 (P), .slice Ax' nx' cx', .int .i64 (qd), .slice Ex mx kx, .int .i64 (yd)] 27))
          replace d3 := Lib.hid (d3.out.alloc (by omega) (.cells #[.slice Ax nx cx, .int .i64 (P), .slice Ax' nx' cx', .int .i64 (qd), .slice Ex mx kx, .int .i64 (yd)] 27))
          replace Bd := Lib.hid (Bd.out.alloc (.cells #[.slice Ax nx cx, .int .i64 (P), .slice Ax' nx' cx', .int .i64 (qd), .slice Ex mx kx, .int .i64 (yd)] 27))
          replace x1 := Lib.hid (x1.out.alloc (by omega) (.cells #[.slice Ax nx cx, .int .i64 (P), .slice Ax' nx' cx', .int .i64 (qd), .slice Ex mx kx, .int .i64 (yd)] 27))
          replace x2 := Lib.hid (x2.out.alloc (by omega) (.cells #[.slice Ax nx cx, .int .i64 (P), .slice Ax' nx' cx', .int .i64 (qd), .slice Ex mx kx, .int .i64 (yd)] 27))
          replace x3 := Lib.hid (x3.out.alloc (by omega) (.cells #[.slice Ax nx cx, .int .i64 (P), .slice Ax' nx' cx', .int .i64 (qd), .slice Ex mx kx, .int .i64 (yd)] 27))
          replace EB := Lib.hid (EB.out.alloc (by omega) (.cells #[.slice Ax nx cx, .int .i64 (P), .slice Ax' nx' cx', .int .i64 (qd), .slice Ex mx kx, .int .i64 (yd)] 27))
          have Bx := Lib.hid (Box.new w3 27 [.slice Ax nx cx, .int .i64 (P), .slice Ax' nx' cx', .int .i64 (qd), .slice Ex mx kx, .int .i64 (yd)])
          have s4 : w3.heap.size + 1 ≤ (w3.alloc (.cells #[.slice Ax nx cx, .int .i64 (P), .slice Ax' nx' cx', .int .i64 (qd), .slice Ex mx kx, .int .i64 (yd)] 27)).heap.size := by simp
          generalize w3.alloc (.cells #[.slice Ax nx cx, .int .i64 (P), .slice Ax' nx' cx', .int .i64 (qd), .slice Ex mx kx, .int .i64 (yd)] 27) = w4 at *
          refine (to_rbR (SSeekReader_x d1.out d2.out d3.out (by omega) (by omega) (by omega) hcd hcd' hkd (by omega) (by omega) (by omega) (by unfold okInt; omega) (by unfold okInt; omega)) HO.out).mono ?_
          rintro e w5 ⟨Ay, ny, cy, Ay', ny', cy', Ey, my, ky, rfl, ⟨hcy, hcy', hky⟩, hb, hd, hd', hr⟩
          (try simp only [World.size_alloc, World.size_setCell, World.size_drew] at hb)
          have HB := Lib.hid hb
          clear hb
          have s5 := HB.out.size
          (try simp only [World.size_alloc, World.size_setCell, World.size_drew] at s5)
          replace d1 := Lib.hid (d1.out.below HB.out (by omega))
          replace d2 := Lib.hid (d2.out.below HB.out (by omega))
          replace d3 := Lib.hid (d3.out.below HB.out (by omega))
          replace Bd := Lib.hid (Bd.out.below HB.out (by omega))
          replace x1 := Lib.hid (x1.out.below HB.out (by omega))
          replace x2 := Lib.hid (x2.out.below HB.out (by omega))
          replace x3 := Lib.hid (x3.out.below HB.out (by omega))
          replace Bx := Lib.hid (Bx.out.below HB.out (by omega))
          replace EB := Lib.hid (below_step HB.out EB.out (by omega))
          clear HB
          have y1 := Lib.hid hd
          have y2 := Lib.hid hd'
          have y3 := Lib.hid hr
          clear hd hd' hr
          have vxl := Bx.out.lt
          have vx0 := (Bx.out.2 0 _ rfl).1
          have vx1 := (Bx.out.2 1 _ rfl).1
          have vx2 := (Bx.out.2 2 _ rfl).1
          have vx3 := (Bx.out.2 3 _ rfl).1
          have vx4 := (Bx.out.2 4 _ rfl).1
          have vx5 := (Bx.out.2 5 _ rfl).1
          go_wp2_with fail
          clear vxl vx0 vx1 vx2 vx3 vx4 vx5
          replace d1 := Lib.hid (d1.out.alloc (by omega) (.cells #[.slice Ay ny cy, .int .i64 (P), .slice Ay' ny' cy', .int .i64 (qd), .slice Ey my ky, .int .i64 (yd)] 27))
          replace d2 := Lib.hid (d2.out.alloc (by omega) (.cells #[.slice Ay ny cy, .int .i64 (P), .slice Ay' ny' cy', .int .i64 (qd), .slice Ey my ky, .int .i64 (yd)] 27))
          replace d3 := Lib.hid (d3.out.alloc (by omega) (.cells #[.slice Ay ny cy, .int .i64 (P), .slice Ay' ny' cy', .int .i64 (qd), .slice Ey my ky, .int .i64 (yd)] 27))
          replace Bd := Lib.hid (Bd.out.alloc (.cells #[.slice Ay ny cy, .int .i64 (P), .slice Ay' ny' cy', .int .i64 (qd), .slice Ey my ky, .int .i64 (yd)] 27))
          replace x1 := Lib.hid (x1.out.alloc (by omega) (.cells #[.slice Ay ny cy, .int .i64 (P), .slice Ay' ny' cy', .int .i64 (qd), .slice Ey my ky, .int .i64 (yd)] 27))
          replace x2 := Lib.hid (x2.out.alloc (by omega) (.cells #[.slice Ay ny cy, .int .i64 (P), .slice Ay' ny' cy', .int .i64 (qd), .slice Ey my ky, .int .i64 (yd)] 27))
          replace x3 := Lib.hid (x3.out.alloc (by omega) (.cells #[.slice Ay ny cy, .int .i64 (P), .slice Ay' ny' cy', .int .i64 (qd), .slice Ey my ky, .int .i64 (yd)] 27))
          replace Bx := Lib.hid (Bx.out.alloc (.cells #[.slice Ay ny cy, .int .i64 (P), .slice Ay' ny' cy', .int .i64 (qd), .slice Ey my ky, .int .i64 (yd)] 27))
          replace y1 := Lib.hid (y1.out.alloc (by omega) (.cells #[.slice Ay ny cy, .int .i64 (P), .slice Ay' ny' cy', .int .i64 (qd), .slice Ey my ky, .int .i64 (yd)] 27))
          replace y2 := Lib.hid (y2.out.alloc (by omega) (.cells #[.slice Ay ny cy, .int .i64 (P), .slice Ay' ny' cy', .int .i64 (qd), .slice Ey my ky, .int .i64 (yd)] 27))
          replace y3 := Lib.hid (y3.out.alloc (by omega) (.cells #[.slice Ay ny cy, .int .i64 (P), .slice Ay' ny' cy', .int .i64 (qd), .slice Ey my ky, .int .i64 (yd)] 27))
          replace EB := Lib.hid (EB.out.alloc (by omega) (.cells #[.slice Ay ny cy, .int .i64 (P), .slice Ay' ny' cy', .int .i64 (qd), .slice Ey my ky, .int .i64 (yd)] 27))
          have By := Lib.hid (Box.new w5 27 [.slice Ay ny cy, .int .i64 (P), .slice Ay' ny' cy', .int .i64 (qd), .slice Ey my ky, .int .i64 (yd)])
          have s6 : w5.heap.size + 1 ≤ (w5.alloc (.cells #[.slice Ay ny cy, .int .i64 (P), .slice Ay' ny' cy', .int .i64 (qd), .slice Ey my ky, .int .i64 (yd)] 27)).heap.size := by simp
          generalize w5.alloc (.cells #[.slice Ay ny cy, .int .i64 (P), .slice Ay' ny' cy', .int .i64 (qd), .slice Ey my ky, .int .i64 (yd)] 27) = w6 at *
          refine (equalReader_same x1.out x2.out x3.out y1.out y2.out y3.out (by omega) (by omega) (by omega) (by omega) (by omega) (by omega)).mono ?_
          rintro e w7 ⟨rfl, hb⟩
          (try simp only [World.size_alloc, World.size_setCell, World.size_drew] at hb)
          have HB := Lib.hid hb
          clear hb
          have s7 := HB.out.size
          (try simp only [World.size_alloc, World.size_setCell, World.size_drew] at s7)
          replace d1 := Lib.hid (d1.out.below HB.out (by omega))
          replace d2 := Lib.hid (d2.out.below HB.out (by omega))
          replace d3 := Lib.hid (d3.out.below HB.out (by omega))
          replace Bd := Lib.hid (Bd.out.below HB.out (by omega))
          replace x1 := Lib.hid (x1.out.below HB.out (by omega))
          replace x2 := Lib.hid (x2.out.below HB.out (by omega))
          replace x3 := Lib.hid (x3.out.below HB.out (by omega))
          replace Bx := Lib.hid (Bx.out.below HB.out (by omega))
          replace y1 := Lib.hid (y1.out.below HB.out (by omega))
          replace y2 := Lib.hid (y2.out.below HB.out (by omega))
          replace y3 := Lib.hid (y3.out.below HB.out (by omega))
          replace By := Lib.hid (By.out.below HB.out (by omega))
          replace EB := Lib.hid (below_step HB.out EB.out (by omega))
          clear HB
          have hmx : mx ≤ 16 := by rw [x3.out.len]; exact R1L.out
          have vxl := Bx.out.lt
          have vx0 := (Bx.out.2 0 _ rfl).1
          have vx1 := (Bx.out.2 1 _ rfl).1
          have vx2 := (Bx.out.2 2 _ rfl).1
          have vx3 := (Bx.out.2 3 _ rfl).1
          have vx4 := (Bx.out.2 4 _ rfl).1
          have vx5 := (Bx.out.2 5 _ rfl).1
          go_wp2_with fail
          refine (to_intN (TellReader_x x1.out x2.out x3.out (by omega) (by omega) (by omega) hcx) TX.out).mono ?_
          clear vxl vx0 vx1 vx2 vx3 vx4 vx5
          rintro e w8 ⟨rfl, hb⟩
          (try simp only [World.size_alloc, World.size_setCell, World.size_drew] at hb)
          have HB := Lib.hid hb
          clear hb
          have s8 := HB.out.size
          (try simp only [World.size_alloc, World.size_setCell, World.size_drew] at s8)
          replace d1 := Lib.hid (d1.out.below HB.out (by omega))
          replace d2 := Lib.hid (d2.out.below HB.out (by omega))
          replace d3 := Lib.hid (d3.out.below HB.out (by omega))
          replace Bd := Lib.hid (Bd.out.below HB.out (by omega))
          replace x1 := Lib.hid (x1.out.below HB.out (by omega))
          replace x2 := Lib.hid (x2.out.below HB.out (by omega))
          replace x3 := Lib.hid (x3.out.below HB.out (by omega))
          replace Bx := Lib.hid (Bx.out.below HB.out (by omega))
          replace y1 := Lib.hid (y1.out.below HB.out (by omega))
          replace y2 := Lib.hid (y2.out.below HB.out (by omega))
          replace y3 := Lib.hid (y3.out.below HB.out (by omega))
          replace By := Lib.hid (By.out.below HB.out (by omega))
          replace EB := Lib.hid (below_step HB.out EB.out (by omega))
          clear HB
          have vdl := Bd.out.lt
          have vd0 := (Bd.out.2 0 _ rfl).1
          have vd1 := (Bd.out.2 1 _ rfl).1
          have vd2 := (Bd.out.2 2 _ rfl).1
          have vd3 := (Bd.out.2 3 _ rfl).1
          have vd4 := (Bd.out.2 4 _ rfl).1
          have vd5 := (Bd.out.2 5 _ rfl).1
          go_wp2_with fail
          refine (to_intN (TellReader_x d1.out d2.out d3.out (by omega) (by omega) (by omega) hcd) TD.out).mono ?_
          clear vdl vd0 vd1 vd2 vd3 vd4 vd5
          rintro e w9 ⟨rfl, hb⟩
          (try simp only [World.size_alloc, World.size_setCell, World.size_drew] at hb)
          have HB := Lib.hid hb
          clear hb
          have s9 := HB.out.size
          (try simp only [World.size_alloc, World.size_setCell, World.size_drew] at s9)
          replace d1 := Lib.hid (d1.out.below HB.out (by omega))
          replace d2 := Lib.hid (d2.out.below HB.out (by omega))
          replace d3 := Lib.hid (d3.out.below HB.out (by omega))
          replace Bd := Lib.hid (Bd.out.below HB.out (by omega))
          replace x1 := Lib.hid (x1.out.below HB.out (by omega))
          replace x2 := Lib.hid (x2.out.below HB.out (by omega))
          replace x3 := Lib.hid (x3.out.below HB.out (by omega))
          replace Bx := Lib.hid (Bx.out.below HB.out (by omega))
          replace y1 := Lib.hid (y1.out.below HB.out (by omega))
          replace y2 := Lib.hid (y2.out.below HB.out (by omega))
          replace y3 := Lib.hid (y3.out.below HB.out (by omega))
          replace By := Lib.hid (By.out.below HB.out (by omega))
          replace EB := Lib.hid (below_step HB.out EB.out (by omega))
          clear HB
          have hnt : nd ≤ nd := by omega
          have hnti : ((nd : Nat) : Int) ≤ (nd : Int) := by omega
          have hntc : ((nd : Nat) : Int) ≤ (cd : Int) := by omega
          have HDR : Hid (Dd.drop T = Dd.drop nd) := by show _ = _; have := d1.out.len; rw [List.drop_of_length_le (by omega), List.drop_of_length_le (by omega)]
          have vxl := Bx.out.lt
          have vx0 := (Bx.out.2 0 _ rfl).1
          have vx1 := (Bx.out.2 1 _ rfl).1
          have vx2 := (Bx.out.2 2 _ rfl).1
          have vx3 := (Bx.out.2 3 _ rfl).1
          have vx4 := (Bx.out.2 4 _ rfl).1
          have vx5 := (Bx.out.2 5 _ rfl).1
          have vdl := Bd.out.lt
          have vd0 := (Bd.out.2 0 _ rfl).1
          have vd1 := (Bd.out.2 1 _ rfl).1
          have vd2 := (Bd.out.2 2 _ rfl).1
          have vd3 := (Bd.out.2 3 _ rfl).1
          have vd4 := (Bd.out.2 4 _ rfl).1
          have vd5 := (Bd.out.2 5 _ rfl).1
          go_wp2_with fail
          refine wp_region_held_drew (S := (fun w' => (w'.cell? ⟨w3.heap.size, 0, none⟩ = some (.slice Ax nx cx) ∧ w'.cell? ⟨w3.heap.size, 1, none⟩ = some (.int .i64 (P)) ∧ w'.cell? ⟨w3.heap.size, 2, none⟩ = some (.slice Ax' nx' cx') ∧ w'.cell? ⟨w3.heap.size, 3, none⟩ = some (.int .i64 (qd)) ∧ w'.cell? ⟨w3.heap.size, 4, none⟩ = some (.slice Ex mx kx) ∧ w'.cell? ⟨w3.heap.size, 5, none⟩ = some (.int .i64 (yd))) ∧ (w'.cell? ⟨w1.heap.size, 0, none⟩ = some (.slice Ad nd cd) ∧ w'.cell? ⟨w1.heap.size, 1, none⟩ = some (.int .i64 (pd)) ∧ w'.cell? ⟨w1.heap.size, 2, none⟩ = some (.slice Ad' nd' cd') ∧ w'.cell? ⟨w1.heap.size, 3, none⟩ = some (.int .i64 (qd)) ∧ w'.cell? ⟨w1.heap.size, 4, none⟩ = some (.slice Ed md kd) ∧ w'.cell? ⟨w1.heap.size, 5, none⟩ = some (.int .i64 (yd))))) (by kernel_rfl) (by (try dsimp only); go_keep) (fun hHeld => ?_)
          refine wpAnyH_take (i := 0) (oi := ?oi141) (v := ?v141) ?hi141 (by kernel_rfl) (by kernel_rfl) (by kernel_rfl) ?hq141 (Or.inl ⟨?hw141, ?hy141⟩) (by assumption) ?_
          case hi141 => simp only [List.getElem?_toArray, List.getElem?_cons_succ, List.getElem?_cons_zero]; rfl
          case hw141 => rfl
          case hq141 => exact fun _ _ _ h => h
          case hy141 => intro w hSw; (try dsimp only at hSw); go_simp; (try with_reducible rfl)
          (try simp only [Act.put, List.setIfInBounds_toArray, List.set_cons_zero, List.set_cons_succ])
          refine wpAnyH_take (i := 2) (oi := ?oi142) (v := ?v142) ?hi142 (by kernel_rfl) (by kernel_rfl) (by kernel_rfl) ?hq142 (Or.inl ⟨?hw142, ?hy142⟩) (by assumption) ?_
          case hi142 => simp only [List.getElem?_toArray, List.getElem?_cons_succ, List.getElem?_cons_zero]; rfl
          case hw142 => rfl
          case hq142 => exact fun _ _ _ h => h
          case hy142 => intro w hSw; (try dsimp only at hSw); go_simp; (try with_reducible rfl)
          (try simp only [Act.put, List.setIfInBounds_toArray, List.set_cons_zero, List.set_cons_succ])
          refine wpAnyH_take (i := 3) (oi := ?oi143) (v := ?v143) ?hi143 (by kernel_rfl) (by kernel_rfl) (by kernel_rfl) ?hq143 (Or.inl ⟨?hw143, ?hy143⟩) (by assumption) ?_
          case hi143 => simp only [List.getElem?_toArray, List.getElem?_cons_succ, List.getElem?_cons_zero]; rfl
          case hw143 => rfl
          case hq143 => exact fun _ _ _ h => h
          case hy143 => intro w hSw; (try dsimp only at hSw); go_simp; (try with_reducible rfl)
          (try simp only [Act.put, List.setIfInBounds_toArray, List.set_cons_zero, List.set_cons_succ])
          refine wpAnyH_take (i := 4) (oi := ?oi144) (v := ?v144) ?hi144 (by kernel_rfl) (by kernel_rfl) (by kernel_rfl) ?hq144 (Or.inl ⟨?hw144, ?hy144⟩) (by assumption) ?_
          case hi144 => simp only [List.getElem?_toArray, List.getElem?_cons_succ, List.getElem?_cons_zero]; rfl
          case hw144 => rfl
          case hq144 => exact fun _ _ _ h => h
          case hy144 => intro w hSw; (try dsimp only at hSw); go_simp; (try with_reducible rfl)
          (try simp only [Act.put, List.setIfInBounds_toArray, List.set_cons_zero, List.set_cons_succ])
          refine wpAnyH_take (i := 5) (oi := ?oi145) (v := ?v145) ?hi145 (by kernel_rfl) (by kernel_rfl) (by kernel_rfl) ?hq145 (Or.inl ⟨?hw145, ?hy145⟩) (by assumption) ?_
          case hi145 => simp only [List.getElem?_toArray, List.getElem?_cons_succ, List.getElem?_cons_zero]; rfl
          case hw145 => rfl
          case hq145 => exact fun _ _ _ h => h
          case hy145 => intro w hSw; (try dsimp only at hSw); go_simp; (try with_reducible rfl)
          (try simp only [Act.put, List.setIfInBounds_toArray, List.set_cons_zero, List.set_cons_succ])
          refine wpAnyH_take (i := 6) (oi := ?oi146) (v := ?v146) ?hi146 (by kernel_rfl) (by kernel_rfl) (by kernel_rfl) ?hq146 (Or.inl ⟨?hw146, ?hy146⟩) (by assumption) ?_
          case hi146 => simp only [List.getElem?_toArray, List.getElem?_cons_succ, List.getElem?_cons_zero]; rfl
          case hw146 => rfl
          case hq146 => exact fun _ _ _ h => h
          case hy146 => intro w hSw; (try dsimp only at hSw); go_simp; (try with_reducible rfl)
          (try simp only [Act.put, List.setIfInBounds_toArray, List.set_cons_zero, List.set_cons_succ])
          refine wpAnyH_ready (rs := [1]) (by kernel_rfl) (by simp) ?_
          refine AllReadyH.cons (o := ?o147) ?ho147 (fun K hK => ?_) AllReadyH.nil
          case ho147 => simp only [List.getElem?_toArray, List.getElem?_cons_succ, List.getElem?_cons_zero]; rfl
          go_simp
          (go_at_call 15; (with_reducible refine (to_listN (ahead_any x1.out.drew x2.out.drew x3.out.drew (by first | omega | (simp; omega) | (simp; done)) (by first | omega | (simp; omega) | (simp; done)) (by first | omega | (simp; omega) | (simp; done)) hcx (by first | omega | (simp; omega) | (simp; done))) AX.out).mono ?_); rintro e wg10 ⟨As, ns, cs, rfl, hcs, hb, hl⟩; (try simp only [World.size_alloc, World.size_setCell, World.size_drew] at hb hl); have HRg10 := Lib.hid hb; have srg10 := hb.size; (try simp only [World.size_alloc, World.size_setCell, World.size_drew] at srg10); have Yxg10 := Lib.hid (Bx.out.drew.below hb (by omega)); have Ydg10 := Lib.hid (Bd.out.drew.below hb (by omega)); have s1 := Lib.hid hl; clear hb hl; have vx0 := (Yxg10.out.2 0 _ rfl).1; have vx1 := (Yxg10.out.2 1 _ rfl).1; have vx2 := (Yxg10.out.2 2 _ rfl).1; have vx3 := (Yxg10.out.2 3 _ rfl).1; have vx4 := (Yxg10.out.2 4 _ rfl).1; have vx5 := (Yxg10.out.2 5 _ rfl).1; have vd0 := (Ydg10.out.2 0 _ rfl).1; have vd1 := (Ydg10.out.2 1 _ rfl).1; have vd2 := (Ydg10.out.2 2 _ rfl).1; have vd3 := (Ydg10.out.2 3 _ rfl).1; have vd4 := (Ydg10.out.2 4 _ rfl).1; have vd5 := (Ydg10.out.2 5 _ rfl).1)
          clear hHeld
          refine hK.out _ _ (by (try dsimp only); go_keep) (fun hHeld => ?_)
          clear hK K
          (try simp only [Act.put, List.setIfInBounds_toArray, List.set_cons_zero, List.set_cons_succ])
          refine wpAnyH_ready (rs := [7]) (by kernel_rfl) (by simp) ?_
          refine AllReadyH.cons (o := ?o148) ?ho148 (fun K hK => ?_) AllReadyH.nil
          case ho148 => simp only [List.getElem?_toArray, List.getElem?_cons_succ, List.getElem?_cons_zero]; rfl
          go_simp
          (go_at_call 13; (have hcut := Ints.cutIf ((d1.out.drew.below HRg10.out (by first | omega | (simp; omega) | (simp; done)))) hnt hcd; rw [Nat.sub_self] at hcut; generalize (if cd = nd then Ad else Option.map (fun x => x.add nd) Ad) = Aw at hcut ⊢); (with_reducible refine (equalInts_same s1.out hcut HDR.out).mono ?_); rintro e wg11 ⟨rfl, hb⟩; (try simp only [World.size_alloc, World.size_setCell, World.size_drew] at hb); have HRg11 := Lib.hid hb; have srg11 := hb.size; (try simp only [World.size_alloc, World.size_setCell, World.size_drew] at srg11); have Yxg11 := Lib.hid (Yxg10.out.below hb (by omega)); have Ydg11 := Lib.hid (Ydg10.out.below hb (by omega)); clear hb; have vx0 := (Yxg11.out.2 0 _ rfl).1; have vx1 := (Yxg11.out.2 1 _ rfl).1; have vx2 := (Yxg11.out.2 2 _ rfl).1; have vx3 := (Yxg11.out.2 3 _ rfl).1; have vx4 := (Yxg11.out.2 4 _ rfl).1; have vx5 := (Yxg11.out.2 5 _ rfl).1; have vd0 := (Ydg11.out.2 0 _ rfl).1; have vd1 := (Ydg11.out.2 1 _ rfl).1; have vd2 := (Ydg11.out.2 2 _ rfl).1; have vd3 := (Ydg11.out.2 3 _ rfl).1; have vd4 := (Ydg11.out.2 4 _ rfl).1; have vd5 := (Ydg11.out.2 5 _ rfl).1)
          clear hHeld
          refine hK.out _ _ (by (try dsimp only); go_keep) (fun hHeld => ?_)
          clear hK K
          (try simp only [Act.put, List.setIfInBounds_toArray, List.set_cons_zero, List.set_cons_succ])
          refine wpAnyH_take (i := 8) (oi := ?oi149) (v := ?v149) ?hi149 (by kernel_rfl) (by kernel_rfl) (by kernel_rfl) ?hq149 (Or.inl ⟨?hw149, ?hy149⟩) (by assumption) ?_
          case hi149 => simp only [List.getElem?_toArray, List.getElem?_cons_succ, List.getElem?_cons_zero]; rfl
          case hw149 => rfl
          case hq149 => exact fun _ _ _ h => h
          case hy149 => intro w hSw; (try dsimp only at hSw); go_simp; (try with_reducible rfl)
          (try simp only [Act.put, List.setIfInBounds_toArray, List.set_cons_zero, List.set_cons_succ])
          refine wpAnyH_take (i := 9) (oi := ?oi150) (v := ?v150) ?hi150 (by kernel_rfl) (by kernel_rfl) (by kernel_rfl) ?hq150 (Or.inl ⟨?hw150, ?hy150⟩) (by assumption) ?_
          case hi150 => simp only [List.getElem?_toArray, List.getElem?_cons_succ, List.getElem?_cons_zero]; rfl
          case hw150 => rfl
          case hq150 => exact fun _ _ _ h => h
          case hy150 => intro w hSw; (try dsimp only at hSw); go_simp; (try with_reducible rfl)
          (try simp only [Act.put, List.setIfInBounds_toArray, List.set_cons_zero, List.set_cons_succ])
          refine wpAnyH_take (i := 10) (oi := ?oi151) (v := ?v151) ?hi151 (by kernel_rfl) (by kernel_rfl) (by kernel_rfl) ?hq151 (Or.inl ⟨?hw151, ?hy151⟩) (by assumption) ?_
          case hi151 => simp only [List.getElem?_toArray, List.getElem?_cons_succ, List.getElem?_cons_zero]; rfl
          case hw151 => rfl
          case hq151 => exact fun _ _ _ h => h
          case hy151 => intro w hSw; (try dsimp only at hSw); go_simp; (try with_reducible rfl)
          (try simp only [Act.put, List.setIfInBounds_toArray, List.set_cons_zero, List.set_cons_succ])
          refine wpAnyH_take (i := 11) (oi := ?oi152) (v := ?v152) ?hi152 (by kernel_rfl) (by kernel_rfl) (by kernel_rfl) ?hq152 (Or.inl ⟨?hw152, ?hy152⟩) (by assumption) ?_
          case hi152 => simp only [List.getElem?_toArray, List.getElem?_cons_succ, List.getElem?_cons_zero]; rfl
          case hw152 => rfl
          case hq152 => exact fun _ _ _ h => h
          case hy152 => intro w hSw; (try dsimp only at hSw); go_simp; (try with_reducible rfl)
          (try simp only [Act.put, List.setIfInBounds_toArray, List.set_cons_zero, List.set_cons_succ])
          refine wpAnyH_take (i := 12) (oi := ?oi153) (v := undef) ?hi153 (by kernel_rfl) (by kernel_rfl) (by kernel_rfl) ?hq153 (Or.inr ⟨?hw153, rfl⟩) (by assumption) ?_
          case hi153 => simp only [List.getElem?_toArray, List.getElem?_cons_succ, List.getElem?_cons_zero]; rfl
          case hw153 => rfl
          case hq153 => exact fun _ _ _ h => h
          (try simp only [Act.put, List.setIfInBounds_toArray, List.set_cons_zero, List.set_cons_succ])
          refine wpAnyH_take (i := 13) (oi := ?oi154) (v := undef) ?hi154 (by kernel_rfl) (by kernel_rfl) (by kernel_rfl) ?hq154 (Or.inr ⟨?hw154, rfl⟩) (by assumption) ?_
          case hi154 => simp only [List.getElem?_toArray, List.getElem?_cons_succ, List.getElem?_cons_zero]; rfl
          case hw154 => rfl
          case hq154 => exact fun _ _ _ h => h
          (try simp only [Act.put, List.setIfInBounds_toArray, List.set_cons_zero, List.set_cons_succ])
          refine wpAnyH_take (i := 14) (oi := ?oi155) (v := undef) ?hi155 (by kernel_rfl) (by kernel_rfl) (by kernel_rfl) ?hq155 (Or.inr ⟨?hw155, rfl⟩) (by assumption) ?_
          case hi155 => simp only [List.getElem?_toArray, List.getElem?_cons_succ, List.getElem?_cons_zero]; rfl
          case hw155 => rfl
          case hq155 => exact fun _ _ _ h => h
          (try simp only [Act.put, List.setIfInBounds_toArray, List.set_cons_zero, List.set_cons_succ])
          refine wpAnyH_take (i := 15) (oi := ?oi156) (v := undef) ?hi156 (by kernel_rfl) (by kernel_rfl) (by kernel_rfl) ?hq156 (Or.inr ⟨?hw156, rfl⟩) (by assumption) ?_
          case hi156 => simp only [List.getElem?_toArray, List.getElem?_cons_succ, List.getElem?_cons_zero]; rfl
          case hw156 => rfl
          case hq156 => exact fun _ _ _ h => h
          (try simp only [Act.put, List.setIfInBounds_toArray, List.set_cons_zero, List.set_cons_succ])
          refine wpAnyH_take (i := 16) (oi := ?oi157) (v := undef) ?hi157 (by kernel_rfl) (by kernel_rfl) (by kernel_rfl) ?hq157 (Or.inr ⟨?hw157, rfl⟩) (by assumption) ?_
          case hi157 => simp only [List.getElem?_toArray, List.getElem?_cons_succ, List.getElem?_cons_zero]; rfl
          case hw157 => rfl
          case hq157 => exact fun _ _ _ h => h
          (try simp only [Act.put, List.setIfInBounds_toArray, List.set_cons_zero, List.set_cons_succ])
          refine wpAnyH_take (i := 17) (oi := ?oi158) (v := undef) ?hi158 (by kernel_rfl) (by kernel_rfl) (by kernel_rfl) ?hq158 (Or.inr ⟨?hw158, rfl⟩) (by assumption) ?_
          case hi158 => simp only [List.getElem?_toArray, List.getElem?_cons_succ, List.getElem?_cons_zero]; rfl
          case hw158 => rfl
          case hq158 => exact fun _ _ _ h => h
          (try simp only [Act.put, List.setIfInBounds_toArray, List.set_cons_zero, List.set_cons_succ])
          refine wpAnyH_take (i := 18) (oi := ?oi159) (v := undef) ?hi159 (by kernel_rfl) (by kernel_rfl) (by kernel_rfl) ?hq159 (Or.inr ⟨?hw159, rfl⟩) (by assumption) ?_
          case hi159 => simp only [List.getElem?_toArray, List.getElem?_cons_succ, List.getElem?_cons_zero]; rfl
          case hw159 => rfl
          case hq159 => exact fun _ _ _ h => h
          (try simp only [Act.put, List.setIfInBounds_toArray, List.set_cons_zero, List.set_cons_succ])
          refine wpAnyH_take (i := 19) (oi := ?oi160) (v := ?v160) ?hi160 (by kernel_rfl) (by kernel_rfl) (by kernel_rfl) ?hq160 (Or.inl ⟨?hw160, ?hy160⟩) (by assumption) ?_
          case hi160 => simp only [List.getElem?_toArray, List.getElem?_cons_succ, List.getElem?_cons_zero]; rfl
          case hw160 => rfl
          case hq160 => exact fun _ _ _ h => h
          case hy160 => intro w hSw; (try dsimp only at hSw); go_simp; (try with_reducible rfl)
          (try simp only [Act.put, List.setIfInBounds_toArray, List.set_cons_zero, List.set_cons_succ])
          refine wpAnyH_take (i := 20) (oi := ?oi161) (v := ?v161) ?hi161 (by kernel_rfl) (by kernel_rfl) (by kernel_rfl) ?hq161 (Or.inl ⟨?hw161, ?hy161⟩) (by assumption) ?_
          case hi161 => simp only [List.getElem?_toArray, List.getElem?_cons_succ, List.getElem?_cons_zero]; rfl
          case hw161 => rfl
          case hq161 => exact fun _ _ _ h => h
          case hy161 => intro w hSw; (try dsimp only at hSw); go_simp; (try with_reducible rfl)
          (try simp only [Act.put, List.setIfInBounds_toArray, List.set_cons_zero, List.set_cons_succ])
          refine wpAnyH_take (i := 21) (oi := ?oi162) (v := ?v162) ?hi162 (by kernel_rfl) (by kernel_rfl) (by kernel_rfl) ?hq162 (Or.inl ⟨?hw162, ?hy162⟩) (by assumption) ?_
          case hi162 => simp only [List.getElem?_toArray, List.getElem?_cons_succ, List.getElem?_cons_zero]; rfl
          case hw162 => rfl
          case hq162 => exact fun _ _ _ h => h
          case hy162 => intro w hSw; (try dsimp only at hSw); go_simp; (try with_reducible rfl)
          (try simp only [Act.put, List.setIfInBounds_toArray, List.set_cons_zero, List.set_cons_succ])
          refine wpAnyH_take (i := 22) (oi := ?oi163) (v := ?v163) ?hi163 (by kernel_rfl) (by kernel_rfl) (by kernel_rfl) ?hq163 (Or.inl ⟨?hw163, ?hy163⟩) (by assumption) ?_
          case hi163 => simp only [List.getElem?_toArray, List.getElem?_cons_succ, List.getElem?_cons_zero]; rfl
          case hw163 => rfl
          case hq163 => exact fun _ _ _ h => h
          case hy163 => intro w hSw; (try dsimp only at hSw); go_simp; (try with_reducible rfl)
          (try simp only [Act.put, List.setIfInBounds_toArray, List.set_cons_zero, List.set_cons_succ])
          refine wpAnyH_take (i := 23) (oi := ?oi164) (v := ?v164) ?hi164 (by kernel_rfl) (by kernel_rfl) (by kernel_rfl) ?hq164 (Or.inl ⟨?hw164, ?hy164⟩) (by assumption) ?_
          case hi164 => simp only [List.getElem?_toArray, List.getElem?_cons_succ, List.getElem?_cons_zero]; rfl
          case hw164 => rfl
          case hq164 => exact fun _ _ _ h => h
          case hy164 => intro w hSw; (try dsimp only at hSw); go_simp; (try with_reducible rfl)
          (try simp only [Act.put, List.setIfInBounds_toArray, List.set_cons_zero, List.set_cons_succ])
          refine wpAnyH_take (i := 24) (oi := ?oi165) (v := ?v165) ?hi165 (by kernel_rfl) (by kernel_rfl) (by kernel_rfl) ?hq165 (Or.inl ⟨?hw165, ?hy165⟩) (by assumption) ?_
          case hi165 => simp only [List.getElem?_toArray, List.getElem?_cons_succ, List.getElem?_cons_zero]; rfl
          case hw165 => rfl
          case hq165 => exact fun _ _ _ h => h
          case hy165 => intro w hSw; (try dsimp only at hSw); go_simp; (try with_reducible rfl)
          (try simp only [Act.put, List.setIfInBounds_toArray, List.set_cons_zero, List.set_cons_succ])
          refine wpAnyH_take (i := 25) (oi := ?oi166) (v := ?v166) ?hi166 (by kernel_rfl) (by kernel_rfl) (by kernel_rfl) ?hq166 (Or.inl ⟨?hw166, ?hy166⟩) (by assumption) ?_
          case hi166 => simp only [List.getElem?_toArray, List.getElem?_cons_succ, List.getElem?_cons_zero]; rfl
          case hw166 => rfl
          case hq166 => exact fun _ _ _ h => h
          case hy166 => intro w hSw; (try dsimp only at hSw); go_simp; (try with_reducible rfl)
          (try simp only [Act.put, List.setIfInBounds_toArray, List.set_cons_zero, List.set_cons_succ])
          refine wpAnyH_take (i := 26) (oi := ?oi167) (v := ?v167) ?hi167 (by kernel_rfl) (by kernel_rfl) (by kernel_rfl) ?hq167 (Or.inl ⟨?hw167, ?hy167⟩) (by assumption) ?_
          case hi167 => simp only [List.getElem?_toArray, List.getElem?_cons_succ, List.getElem?_cons_zero]; rfl
          case hw167 => rfl
          case hq167 => exact fun _ _ _ h => h
          case hy167 => intro w hSw; (try dsimp only at hSw); go_simp; (try with_reducible rfl)
          (try simp only [Act.put, List.setIfInBounds_toArray, List.set_cons_zero, List.set_cons_succ])
          refine wpAnyH_take (i := 27) (oi := ?oi168) (v := ?v168) ?hi168 (by kernel_rfl) (by kernel_rfl) (by kernel_rfl) ?hq168 (Or.inl ⟨?hw168, ?hy168⟩) (by assumption) ?_
          case hi168 => simp only [List.getElem?_toArray, List.getElem?_cons_succ, List.getElem?_cons_zero]; rfl
          case hw168 => rfl
          case hq168 => exact fun _ _ _ h => h
          case hy168 => intro w hSw; (try dsimp only at hSw); go_simp; (try with_reducible rfl)
          (try simp only [Act.put, List.setIfInBounds_toArray, List.set_cons_zero, List.set_cons_succ])
          refine wpAnyH_take (i := 28) (oi := ?oi169) (v := ?v169) ?hi169 (by kernel_rfl) (by kernel_rfl) (by kernel_rfl) ?hq169 (Or.inl ⟨?hw169, ?hy169⟩) (by assumption) ?_
          case hi169 => simp only [List.getElem?_toArray, List.getElem?_cons_succ, List.getElem?_cons_zero]; rfl
          case hw169 => rfl
          case hq169 => exact fun _ _ _ h => h
          case hy169 => intro w hSw; (try dsimp only at hSw); go_simp; (try with_reducible rfl)
          (try simp only [Act.put, List.setIfInBounds_toArray, List.set_cons_zero, List.set_cons_succ])
          refine wpAnyH_take (i := 29) (oi := ?oi170) (v := ?v170) ?hi170 (by kernel_rfl) (by kernel_rfl) (by kernel_rfl) ?hq170 (Or.inl ⟨?hw170, ?hy170⟩) (by assumption) ?_
          case hi170 => simp only [List.getElem?_toArray, List.getElem?_cons_succ, List.getElem?_cons_zero]; rfl
          case hw170 => rfl
          case hq170 => exact fun _ _ _ h => h
          case hy170 => intro w hSw; (try dsimp only at hSw); go_simp; (try with_reducible rfl)
          (try simp only [Act.put, List.setIfInBounds_toArray, List.set_cons_zero, List.set_cons_succ])
          refine wpAnyH_take (i := 30) (oi := ?oi171) (v := ?v171) ?hi171 (by kernel_rfl) (by kernel_rfl) (by kernel_rfl) ?hq171 (Or.inl ⟨?hw171, ?hy171⟩) (by assumption) ?_
          case hi171 => simp only [List.getElem?_toArray, List.getElem?_cons_succ, List.getElem?_cons_zero]; rfl
          case hw171 => rfl
          case hq171 => exact fun _ _ _ h => h
          case hy171 => intro w hSw; (try dsimp only at hSw); go_simp; (try with_reducible rfl)
          (try simp only [Act.put, List.setIfInBounds_toArray, List.set_cons_zero, List.set_cons_succ])
          refine wpAnyH_take (i := 31) (oi := ?oi172) (v := ?v172) ?hi172 (by kernel_rfl) (by kernel_rfl) (by kernel_rfl) ?hq172 (Or.inl ⟨?hw172, ?hy172⟩) (by assumption) ?_
          case hi172 => simp only [List.getElem?_toArray, List.getElem?_cons_succ, List.getElem?_cons_zero]; rfl
          case hw172 => rfl
          case hq172 => exact fun _ _ _ h => h
          case hy172 => intro w hSw; (try dsimp only at hSw); go_simp; (try with_reducible rfl)
          (try simp only [Act.put, List.setIfInBounds_toArray, List.set_cons_zero, List.set_cons_succ])
          refine wpAnyH_ready (rs := [32]) (by kernel_rfl) (by simp) ?_
          refine AllReadyH.cons (o := ?o173) ?ho173 (fun K hK => ?_) AllReadyH.nil
          case ho173 => simp only [List.getElem?_toArray, List.getElem?_cons_succ, List.getElem?_cons_zero]; rfl
          go_simp
          (go_at_call 16; (with_reducible refine (to_boolN (ValidReader_any ((x1.out.drew.below HRg10.out (by first | omega | (simp; omega) | (simp; done))).below HRg11.out (by first | omega | (simp; omega) | (simp; done))) ((x2.out.drew.below HRg10.out (by first | omega | (simp; omega) | (simp; done))).below HRg11.out (by first | omega | (simp; omega) | (simp; done))) ((x3.out.drew.below HRg10.out (by first | omega | (simp; omega) | (simp; done))).below HRg11.out (by first | omega | (simp; omega) | (simp; done))) (by first | omega | (simp; omega) | (simp; done)) (by first | omega | (simp; omega) | (simp; done)) (by first | omega | (simp; omega) | (simp; done)) hcx) VX.out).mono ?_); rintro e wg12 ⟨rfl, hb⟩; (try simp only [World.size_alloc, World.size_setCell, World.size_drew] at hb); have HRg12 := Lib.hid hb; have srg12 := hb.size; (try simp only [World.size_alloc, World.size_setCell, World.size_drew] at srg12); have Yxg12 := Lib.hid (Yxg11.out.below hb (by omega)); have Ydg12 := Lib.hid (Ydg11.out.below hb (by omega)); clear hb; have vx0 := (Yxg12.out.2 0 _ rfl).1; have vx1 := (Yxg12.out.2 1 _ rfl).1; have vx2 := (Yxg12.out.2 2 _ rfl).1; have vx3 := (Yxg12.out.2 3 _ rfl).1; have vx4 := (Yxg12.out.2 4 _ rfl).1; have vx5 := (Yxg12.out.2 5 _ rfl).1; have vd0 := (Ydg12.out.2 0 _ rfl).1; have vd1 := (Ydg12.out.2 1 _ rfl).1; have vd2 := (Ydg12.out.2 2 _ rfl).1; have vd3 := (Ydg12.out.2 3 _ rfl).1; have vd4 := (Ydg12.out.2 4 _ rfl).1; have vd5 := (Ydg12.out.2 5 _ rfl).1)
          clear hHeld
          refine hK.out _ _ (by (try dsimp only); go_keep) (fun hHeld => ?_)
          clear hK K
          (try simp only [Act.put, List.setIfInBounds_toArray, List.set_cons_zero, List.set_cons_succ])
          refine wpAnyH_take (i := 33) (oi := ?oi174) (v := ?v174) ?hi174 (by kernel_rfl) (by kernel_rfl) (by kernel_rfl) ?hq174 (Or.inl ⟨?hw174, ?hy174⟩) (by assumption) ?_
          case hi174 => simp only [List.getElem?_toArray, List.getElem?_cons_succ, List.getElem?_cons_zero]; rfl
          case hw174 => rfl
          case hq174 => exact fun _ _ _ h => h
          case hy174 => intro w hSw; (try dsimp only at hSw); go_simp; (try with_reducible rfl)
          (try simp only [Act.put, List.setIfInBounds_toArray, List.set_cons_zero, List.set_cons_succ])
          refine wpAnyH_take (i := 34) (oi := ?oi175) (v := ?v175) ?hi175 (by kernel_rfl) (by kernel_rfl) (by kernel_rfl) ?hq175 (Or.inl ⟨?hw175, ?hy175⟩) (by assumption) ?_
          case hi175 => simp only [List.getElem?_toArray, List.getElem?_cons_succ, List.getElem?_cons_zero]; rfl
          case hw175 => rfl
          case hq175 => exact fun _ _ _ h => h
          case hy175 => intro w hSw; (try dsimp only at hSw); go_simp; (try with_reducible rfl)
          (try simp only [Act.put, List.setIfInBounds_toArray, List.set_cons_zero, List.set_cons_succ])
          refine wpAnyH_done (by kernel_rfl) ?_ _
          go_wp2
          go_ret
          exact ⟨rfl, (below_step HRg12.out (below_step HRg11.out (below_step HRg10.out EB.out.drew (by first | omega | (simp; omega) | (simp; done))) (by first | omega | (simp; omega) | (simp; done))) (by first | omega | (simp; omega) | (simp; done)))⟩
        · refine (to_rbR (SeekReader_x d1.out d2.out d3.out (by omega) (by omega) (by omega) hcd hcd' hkd (by omega) (by omega) (by omega) (by unfold okInt; omega) (by unfold okInt; omega)) HO.out).mono ?_
          rintro e w3 ⟨Ax, nx, cx, Ax', nx', cx', Ex, mx, kx, rfl, ⟨hcx, hcx', hkx⟩, hb, hd, hd', hr⟩
          (try simp only [World.size_alloc, World.size_setCell, World.size_drew] at hb)
          have HB := Lib.hid hb
          clear hb
          have s3 := HB.out.size
          (try simp only [World.size_alloc, World.size_setCell, World.size_drew] at s3)
          replace d1 := Lib.hid (d1.out.below HB.out (by omega))
          replace d2 := Lib.hid (d2.out.below HB.out (by omega))
          replace d3 := Lib.hid (d3.out.below HB.out (by omega))
          replace Bd := Lib.hid (Bd.out.below HB.out (by omega))
          replace EB := Lib.hid (below_step HB.out EB.out (by omega))
          clear HB
          have x1 := Lib.hid hd
          have x2 := Lib.hid hd'
          have x3 := Lib.hid hr
          clear hd hd' hr
          have vdl := Bd.out.lt
          have vd0 := (Bd.out.2 0 _ rfl).1
          have vd1 := (Bd.out.2 1 _ rfl).1
          have vd2 := (Bd.out.2 2 _ rfl).1
          have vd3 := (Bd.out.2 3 _ rfl).1
          have vd4 := (Bd.out.2 4 _ rfl).1
          have vd5 := (Bd.out.2 5 _ rfl).1
          go_wp2_with fail
          clear vdl vd0 vd1 vd2 vd3 vd4 vd5
          replace d1 := Lib.hid (d1.out.alloc (by omega) (.cells #[.slice Ax nx cx, .int .i64 (P), .slice Ax' nx' cx', .int .i64 (qd), .slice Ex mx kx, .int .i64 (yd)] 27))
          replace d2 := Lib.hid (d2.out.alloc (by omega) (.cells #[.slice Ax nx cx, .int .i64 (P), .slice Ax' nx' cx', .int .i64 (qd), .slice Ex mx kx, .int .i64 (yd)] 27))
          replace d3 := Lib.hid (d3.out.alloc (by omega) (.cells #[.slice Ax nx cx, .int .i64 (P), .slice Ax' nx' cx', .int .i64 (qd), .slice Ex mx kx, .int .i64 (yd)] 27))
          replace Bd := Lib.hid (Bd.out.alloc (.cells #[.slice Ax nx cx, .int .i64 (P), .slice Ax' nx' cx', .int .i64 (qd), .slice Ex mx kx, .int .i64 (yd)] 27))
          replace x1 := Lib.hid (x1.out.alloc (by omega) (.cells #[.slice Ax nx cx, .int .i64 (P), .slice Ax' nx' cx', .int .i64 (qd), .slice Ex mx kx, .int .i64 (yd)] 27))
          replace x2 := Lib.hid (x2.out.alloc (by omega) (.cells #[.slice Ax nx cx, .int .i64 (P), .slice Ax' nx' cx', .int .i64 (qd), .slice Ex mx kx, .int .i64 (yd)] 27))
          replace x3 := Lib.hid (x3.out.alloc (by omega) (.cells #[.slice Ax nx cx, .int .i64 (P), .slice Ax' nx' cx', .int .i64 (qd), .slice Ex mx kx, .int .i64 (yd)] 27))
          replace EB := Lib.hid (EB.out.alloc (by omega) (.cells #[.slice Ax nx cx, .int .i64 (P), .slice Ax' nx' cx', .int .i64 (qd), .slice Ex mx kx, .int .i64 (yd)] 27))
          have Bx := Lib.hid (Box.new w3 27 [.slice Ax nx cx, .int .i64 (P), .slice Ax' nx' cx', .int .i64 (qd), .slice Ex mx kx, .int .i64 (yd)])
          have s4 : w3.heap.size + 1 ≤ (w3.alloc (.cells #[.slice Ax nx cx, .int .i64 (P), .slice Ax' nx' cx', .int .i64 (qd), .slice Ex mx kx, .int .i64 (yd)] 27)).heap.size := by simp
          generalize w3.alloc (.cells #[.slice Ax nx cx, .int .i64 (P), .slice Ax' nx' cx', .int .i64 (qd), .slice Ex mx kx, .int .i64 (yd)] 27) = w4 at *
          refine (to_rbR (SSeekReader_x d1.out d2.out d3.out (by omega) (by omega) (by omega) hcd hcd' hkd (by omega) (by omega) (by omega) (by unfold okInt; omega) (by unfold okInt; omega)) HO.out).mono ?_
          rintro e w5 ⟨Ay, ny, cy, Ay', ny', cy', Ey, my, ky, rfl, ⟨hcy, hcy', hky⟩, hb, hd, hd', hr⟩
          (try simp only [World.size_alloc, World.size_setCell, World.size_drew] at hb)
          have HB := Lib.hid hb
          clear hb
          have s5 := HB.out.size
          (try simp only [World.size_alloc, World.size_setCell, World.size_drew] at s5)
          replace d1 := Lib.hid (d1.out.below HB.out (by omega))
          replace d2 := Lib.hid (d2.out.below HB.out (by omega))
          replace d3 := Lib.hid (d3.out.below HB.out (by omega))
          replace Bd := Lib.hid (Bd.out.below HB.out (by omega))
          replace x1 := Lib.hid (x1.out.below HB.out (by omega))
          replace x2 := Lib.hid (x2.out.below HB.out (by omega))
          replace x3 := Lib.hid (x3.out.below HB.out (by omega))
          replace Bx := Lib.hid (Bx.out.below HB.out (by omega))
          replace EB := Lib.hid (below_step HB.out EB.out (by omega))
          clear HB
          have y1 := Lib.hid hd
          have y2 := Lib.hid hd'
          have y3 := Lib.hid hr
          clear hd hd' hr
          have vxl := Bx.out.lt
          have vx0 := (Bx.out.2 0 _ rfl).1
          have vx1 := (Bx.out.2 1 _ rfl).1
          have vx2 := (Bx.out.2 2 _ rfl).1
          have vx3 := (Bx.out.2 3 _ rfl).1
          have vx4 := (Bx.out.2 4 _ rfl).1
          have vx5 := (Bx.out.2 5 _ rfl).1
          go_wp2_with fail
          clear vxl vx0 vx1 vx2 vx3 vx4 vx5
          replace d1 := Lib.hid (d1.out.alloc (by omega) (.cells #[.slice Ay ny cy, .int .i64 (P), .slice Ay' ny' cy', .int .i64 (qd), .slice Ey my ky, .int .i64 (yd)] 27))
          replace d2 := Lib.hid (d2.out.alloc (by omega) (.cells #[.slice Ay ny cy, .int .i64 (P), .slice Ay' ny' cy', .int .i64 (qd), .slice Ey my ky, .int .i64 (yd)] 27))
          replace d3 := Lib.hid (d3.out.alloc (by omega) (.cells #[.slice Ay ny cy, .int .i64 (P), .slice Ay' ny' cy', .int .i64 (qd), .slice Ey my ky, .int .i64 (yd)] 27))
          replace Bd := Lib.hid (Bd.out.alloc (.cells #[.slice Ay ny cy, .int .i64 (P), .slice Ay' ny' cy', .int .i64 (qd), .slice Ey my ky, .int .i64 (yd)] 27))
          replace x1 := Lib.hid (x1.out.alloc (by omega) (.cells #[.slice Ay ny cy, .int .i64 (P), .slice Ay' ny' cy', .int .i64 (qd), .slice Ey my ky, .int .i64 (yd)] 27))
          replace x2 := Lib.hid (x2.out.alloc (by omega) (.cells #[.slice Ay ny cy, .int .i64 (P), .slice Ay' ny' cy', .int .i64 (qd), .slice Ey my ky, .int .i64 (yd)] 27))
          replace x3 := Lib.hid (x3.out.alloc (by omega) (.cells #[.slice Ay ny cy, .int .i64 (P), .slice Ay' ny' cy', .int .i64 (qd), .slice Ey my ky, .int .i64 (yd)] 27))
          replace Bx := Lib.hid (Bx.out.alloc (.cells #[.slice Ay ny cy, .int .i64 (P), .slice Ay' ny' cy', .int .i64 (qd), .slice Ey my ky, .int .i64 (yd)] 27))
          replace y1 := Lib.hid (y1.out.alloc (by omega) (.cells #[.slice Ay ny cy, .int .i64 (P), .slice Ay' ny' cy', .int .i64 (qd), .slice Ey my ky, .int .i64 (yd)] 27))
          replace y2 := Lib.hid (y2.out.alloc (by omega) (.cells #[.slice Ay ny cy, .int .i64 (P), .slice Ay' ny' cy', .int .i64 (qd), .slice Ey my ky, .int .i64 (yd)] 27))
          replace y3 := Lib.hid (y3.out.alloc (by omega) (.cells #[.slice Ay ny cy, .int .i64 (P), .slice Ay' ny' cy', .int .i64 (qd), .slice Ey my ky, .int .i64 (yd)] 27))
          replace EB := Lib.hid (EB.out.alloc (by omega) (.cells #[.slice Ay ny cy, .int .i64 (P), .slice Ay' ny' cy', .int .i64 (qd), .slice Ey my ky, .int .i64 (yd)] 27))
          have By := Lib.hid (Box.new w5 27 [.slice Ay ny cy, .int .i64 (P), .slice Ay' ny' cy', .int .i64 (qd), .slice Ey my ky, .int .i64 (yd)])
          have s6 : w5.heap.size + 1 ≤ (w5.alloc (.cells #[.slice Ay ny cy, .int .i64 (P), .slice Ay' ny' cy', .int .i64 (qd), .slice Ey my ky, .int .i64 (yd)] 27)).heap.size := by simp
          generalize w5.alloc (.cells #[.slice Ay ny cy, .int .i64 (P), .slice Ay' ny' cy', .int .i64 (qd), .slice Ey my ky, .int .i64 (yd)] 27) = w6 at *
          refine (equalReader_same x1.out x2.out x3.out y1.out y2.out y3.out (by omega) (by omega) (by omega) (by omega) (by omega) (by omega)).mono ?_
          rintro e w7 ⟨rfl, hb⟩
          (try simp only [World.size_alloc, World.size_setCell, World.size_drew] at hb)
          have HB := Lib.hid hb
          clear hb
          have s7 := HB.out.size
          (try simp only [World.size_alloc, World.size_setCell, World.size_drew] at s7)
          replace d1 := Lib.hid (d1.out.below HB.out (by omega))
          replace d2 := Lib.hid (d2.out.below HB.out (by omega))
          replace d3 := Lib.hid (d3.out.below HB.out (by omega))
          replace Bd := Lib.hid (Bd.out.below HB.out (by omega))
          replace x1 := Lib.hid (x1.out.below HB.out (by omega))
          replace x2 := Lib.hid (x2.out.below HB.out (by omega))
          replace x3 := Lib.hid (x3.out.below HB.out (by omega))
          replace Bx := Lib.hid (Bx.out.below HB.out (by omega))
          replace y1 := Lib.hid (y1.out.below HB.out (by omega))
          replace y2 := Lib.hid (y2.out.below HB.out (by omega))
          replace y3 := Lib.hid (y3.out.below HB.out (by omega))
          replace By := Lib.hid (By.out.below HB.out (by omega))
          replace EB := Lib.hid (below_step HB.out EB.out (by omega))
          clear HB
          have hmx : mx ≤ 16 := by rw [x3.out.len]; exact R1L.out
          have vxl := Bx.out.lt
          have vx0 := (Bx.out.2 0 _ rfl).1
          have vx1 := (Bx.out.2 1 _ rfl).1
          have vx2 := (Bx.out.2 2 _ rfl).1
          have vx3 := (Bx.out.2 3 _ rfl).1
          have vx4 := (Bx.out.2 4 _ rfl).1
          have vx5 := (Bx.out.2 5 _ rfl).1
          go_wp2_with fail
          refine (to_intN (TellReader_x x1.out x2.out x3.out (by omega) (by omega) (by omega) hcx) TX.out).mono ?_
          clear vxl vx0 vx1 vx2 vx3 vx4 vx5
          rintro e w8 ⟨rfl, hb⟩
          (try simp only [World.size_alloc, World.size_setCell, World.size_drew] at hb)
          have HB := Lib.hid hb
          clear hb
          have s8 := HB.out.size
          (try simp only [World.size_alloc, World.size_setCell, World.size_drew] at s8)
          replace d1 := Lib.hid (d1.out.below HB.out (by omega))
          replace d2 := Lib.hid (d2.out.below HB.out (by omega))
          replace d3 := Lib.hid (d3.out.below HB.out (by omega))
          replace Bd := Lib.hid (Bd.out.below HB.out (by omega))
          replace x1 := Lib.hid (x1.out.below HB.out (by omega))
          replace x2 := Lib.hid (x2.out.below HB.out (by omega))
          replace x3 := Lib.hid (x3.out.below HB.out (by omega))
          replace Bx := Lib.hid (Bx.out.below HB.out (by omega))
          replace y1 := Lib.hid (y1.out.below HB.out (by omega))
          replace y2 := Lib.hid (y2.out.below HB.out (by omega))
          replace y3 := Lib.hid (y3.out.below HB.out (by omega))
          replace By := Lib.hid (By.out.below HB.out (by omega))
          replace EB := Lib.hid (below_step HB.out EB.out (by omega))
          clear HB
          have vdl := Bd.out.lt
          have vd0 := (Bd.out.2 0 _ rfl).1
          have vd1 := (Bd.out.2 1 _ rfl).1
          have vd2 := (Bd.out.2 2 _ rfl).1
          have vd3 := (Bd.out.2 3 _ rfl).1
          have vd4 := (Bd.out.2 4 _ rfl).1
          have vd5 := (Bd.out.2 5 _ rfl).1
          go_wp2_with fail
          refine (to_intN (TellReader_x d1.out d2.out d3.out (by omega) (by omega) (by omega) hcd) TD.out).mono ?_
          clear vdl vd0 vd1 vd2 vd3 vd4 vd5
          rintro e w9 ⟨rfl, hb⟩
          (try simp only [World.size_alloc, World.size_setCell, World.size_drew] at hb)
          have HB := Lib.hid hb
          clear hb
          have s9 := HB.out.size
          (try simp only [World.size_alloc, World.size_setCell, World.size_drew] at s9)
          replace d1 := Lib.hid (d1.out.below HB.out (by omega))
          replace d2 := Lib.hid (d2.out.below HB.out (by omega))
          replace d3 := Lib.hid (d3.out.below HB.out (by omega))
          replace Bd := Lib.hid (Bd.out.below HB.out (by omega))
          replace x1 := Lib.hid (x1.out.below HB.out (by omega))
          replace x2 := Lib.hid (x2.out.below HB.out (by omega))
          replace x3 := Lib.hid (x3.out.below HB.out (by omega))
          replace Bx := Lib.hid (Bx.out.below HB.out (by omega))
          replace y1 := Lib.hid (y1.out.below HB.out (by omega))
          replace y2 := Lib.hid (y2.out.below HB.out (by omega))
          replace y3 := Lib.hid (y3.out.below HB.out (by omega))
          replace By := Lib.hid (By.out.below HB.out (by omega))
          replace EB := Lib.hid (below_step HB.out EB.out (by omega))
          clear HB
          have hnt : T ≤ nd := by omega
          have hnti : ((T : Nat) : Int) ≤ (nd : Int) := by omega
          have hntc : ((T : Nat) : Int) ≤ (cd : Int) := by omega
          have vxl := Bx.out.lt
          have vx0 := (Bx.out.2 0 _ rfl).1
          have vx1 := (Bx.out.2 1 _ rfl).1
          have vx2 := (Bx.out.2 2 _ rfl).1
          have vx3 := (Bx.out.2 3 _ rfl).1
          have vx4 := (Bx.out.2 4 _ rfl).1
          have vx5 := (Bx.out.2 5 _ rfl).1
          have vdl := Bd.out.lt
          have vd0 := (Bd.out.2 0 _ rfl).1
          have vd1 := (Bd.out.2 1 _ rfl).1
          have vd2 := (Bd.out.2 2 _ rfl).1
          have vd3 := (Bd.out.2 3 _ rfl).1
          have vd4 := (Bd.out.2 4 _ rfl).1
          have vd5 := (Bd.out.2 5 _ rfl).1
          go_wp2_with fail
          refine wp_region_held_drew (S := (fun w' => (w'.cell? ⟨w3.heap.size, 0, none⟩ = some (.slice Ax nx cx) ∧ w'.cell? ⟨w3.heap.size, 1, none⟩ = some (.int .i64 (P)) ∧ w'.cell? ⟨w3.heap.size, 2, none⟩ = some (.slice Ax' nx' cx') ∧ w'.cell? ⟨w3.heap.size, 3, none⟩ = some (.int .i64 (qd)) ∧ w'.cell? ⟨w3.heap.size, 4, none⟩ = some (.slice Ex mx kx) ∧ w'.cell? ⟨w3.heap.size, 5, none⟩ = some (.int .i64 (yd))) ∧ (w'.cell? ⟨w1.heap.size, 0, none⟩ = some (.slice Ad nd cd) ∧ w'.cell? ⟨w1.heap.size, 1, none⟩ = some (.int .i64 (pd)) ∧ w'.cell? ⟨w1.heap.size, 2, none⟩ = some (.slice Ad' nd' cd') ∧ w'.cell? ⟨w1.heap.size, 3, none⟩ = some (.int .i64 (qd)) ∧ w'.cell? ⟨w1.heap.size, 4, none⟩ = some (.slice Ed md kd) ∧ w'.cell? ⟨w1.heap.size, 5, none⟩ = some (.int .i64 (yd))))) (by kernel_rfl) (by (try dsimp only); go_keep) (fun hHeld => ?_)
          refine wpAnyH_take (i := 0) (oi := ?oi176) (v := ?v176) ?hi176 (by kernel_rfl) (by kernel_rfl) (by kernel_rfl) ?hq176 (Or.inl ⟨?hw176, ?hy176⟩) (by assumption) ?_
          case hi176 => simp only [List.getElem?_toArray, List.getElem?_cons_succ, List.getElem?_cons_zero]; rfl
          case hw176 => rfl
          case hq176 => exact fun _ _ _ h => h
          case hy176 => intro w hSw; (try dsimp only at hSw); go_simp; (try with_reducible rfl)
          (try simp only [Act.put, List.setIfInBounds_toArray, List.set_cons_zero, List.set_cons_succ])
          refine wpAnyH_take (i := 2) (oi := ?oi177) (v := ?v177) ?hi177 (by kernel_rfl) (by kernel_rfl) (by kernel_rfl) ?hq177 (Or.inl ⟨?hw177, ?hy177⟩) (by assumption) ?_
          case hi177 => simp only [List.getElem?_toArray, List.getElem?_cons_succ, List.getElem?_cons_zero]; rfl
          case hw177 => rfl
          case hq177 => exact fun _ _ _ h => h
          case hy177 => intro w hSw; (try dsimp only at hSw); go_simp; (try with_reducible rfl)
          (try simp only [Act.put, List.setIfInBounds_toArray, List.set_cons_zero, List.set_cons_succ])
          refine wpAnyH_take (i := 3) (oi := ?oi178) (v := ?v178) ?hi178 (by kernel_rfl) (by kernel_rfl) (by kernel_rfl) ?hq178 (Or.inl ⟨?hw178, ?hy178⟩) (by assumption) ?_
          case hi178 => simp only [List.getElem?_toArray, List.getElem?_cons_succ, List.getElem?_cons_zero]; rfl
          case hw178 => rfl
          case hq178 => exact fun _ _ _ h => h
          case hy178 => intro w hSw; (try dsimp only at hSw); go_simp; (try with_reducible rfl)
          (try simp only [Act.put, List.setIfInBounds_toArray, List.set_cons_zero, List.set_cons_succ])
          refine wpAnyH_take (i := 4) (oi := ?oi179) (v := ?v179) ?hi179 (by kernel_rfl) (by kernel_rfl) (by kernel_rfl) ?hq179 (Or.inl ⟨?hw179, ?hy179⟩) (by assumption) ?_
          case hi179 => simp only [List.getElem?_toArray, List.getElem?_cons_succ, List.getElem?_cons_zero]; rfl
          case hw179 => rfl
          case hq179 => exact fun _ _ _ h => h
          case hy179 => intro w hSw; (try dsimp only at hSw); go_simp; (try with_reducible rfl)
          (try simp only [Act.put, List.setIfInBounds_toArray, List.set_cons_zero, List.set_cons_succ])
          refine wpAnyH_take (i := 5) (oi := ?oi180) (v := ?v180) ?hi180 (by kernel_rfl) (by kernel_rfl) (by kernel_rfl) ?hq180 (Or.inl ⟨?hw180, ?hy180⟩) (by assumption) ?_
          case hi180 => simp only [List.getElem?_toArray, List.getElem?_cons_succ, List.getElem?_cons_zero]; rfl
          case hw180 => rfl
          case hq180 => exact fun _ _ _ h => h
          case hy180 => intro w hSw; (try dsimp only at hSw); go_simp; (try with_reducible rfl)
          (try simp only [Act.put, List.setIfInBounds_toArray, List.set_cons_zero, List.set_cons_succ])
          refine wpAnyH_take (i := 6) (oi := ?oi181) (v := ?v181) ?hi181 (by kernel_rfl) (by kernel_rfl) (by kernel_rfl) ?hq181 (Or.inl ⟨?hw181, ?hy181⟩) (by assumption) ?_
          case hi181 => simp only [List.getElem?_toArray, List.getElem?_cons_succ, List.getElem?_cons_zero]; rfl
          case hw181 => rfl
          case hq181 => exact fun _ _ _ h => h
          case hy181 => intro w hSw; (try dsimp only at hSw); go_simp; (try with_reducible rfl)
          (try simp only [Act.put, List.setIfInBounds_toArray, List.set_cons_zero, List.set_cons_succ])
          refine wpAnyH_ready (rs := [1]) (by kernel_rfl) (by simp) ?_
          refine AllReadyH.cons (o := ?o182) ?ho182 (fun K hK => ?_) AllReadyH.nil
          case ho182 => simp only [List.getElem?_toArray, List.getElem?_cons_succ, List.getElem?_cons_zero]; rfl
          go_simp
          (go_at_call 15; (with_reducible refine (to_listN (ahead_any x1.out.drew x2.out.drew x3.out.drew (by first | omega | (simp; omega) | (simp; done)) (by first | omega | (simp; omega) | (simp; done)) (by first | omega | (simp; omega) | (simp; done)) hcx (by first | omega | (simp; omega) | (simp; done))) AX.out).mono ?_); rintro e wg10 ⟨As, ns, cs, rfl, hcs, hb, hl⟩; (try simp only [World.size_alloc, World.size_setCell, World.size_drew] at hb hl); have HRg10 := Lib.hid hb; have srg10 := hb.size; (try simp only [World.size_alloc, World.size_setCell, World.size_drew] at srg10); have Yxg10 := Lib.hid (Bx.out.drew.below hb (by omega)); have Ydg10 := Lib.hid (Bd.out.drew.below hb (by omega)); have s1 := Lib.hid hl; clear hb hl; have vx0 := (Yxg10.out.2 0 _ rfl).1; have vx1 := (Yxg10.out.2 1 _ rfl).1; have vx2 := (Yxg10.out.2 2 _ rfl).1; have vx3 := (Yxg10.out.2 3 _ rfl).1; have vx4 := (Yxg10.out.2 4 _ rfl).1; have vx5 := (Yxg10.out.2 5 _ rfl).1; have vd0 := (Ydg10.out.2 0 _ rfl).1; have vd1 := (Ydg10.out.2 1 _ rfl).1; have vd2 := (Ydg10.out.2 2 _ rfl).1; have vd3 := (Ydg10.out.2 3 _ rfl).1; have vd4 := (Ydg10.out.2 4 _ rfl).1; have vd5 := (Ydg10.out.2 5 _ rfl).1)
          clear hHeld
          refine hK.out _ _ (by (try dsimp only); go_keep) (fun hHeld => ?_)
          clear hK K
          (try simp only [Act.put, List.setIfInBounds_toArray, List.set_cons_zero, List.set_cons_succ])
          refine wpAnyH_ready (rs := [7]) (by kernel_rfl) (by simp) ?_
          refine AllReadyH.cons (o := ?o183) ?ho183 (fun K hK => ?_) AllReadyH.nil
          case ho183 => simp only [List.getElem?_toArray, List.getElem?_cons_succ, List.getElem?_cons_zero]; rfl
          go_simp
          (go_at_call 13; (have hcut := Ints.cutIf ((d1.out.drew.below HRg10.out (by first | omega | (simp; omega) | (simp; done)))) hnt hcd; generalize (if cd = T then Ad else Option.map (fun x => x.add T) Ad) = Aw at hcut ⊢); (with_reducible refine (equalInts_same s1.out hcut rfl).mono ?_); rintro e wg11 ⟨rfl, hb⟩; (try simp only [World.size_alloc, World.size_setCell, World.size_drew] at hb); have HRg11 := Lib.hid hb; have srg11 := hb.size; (try simp only [World.size_alloc, World.size_setCell, World.size_drew] at srg11); have Yxg11 := Lib.hid (Yxg10.out.below hb (by omega)); have Ydg11 := Lib.hid (Ydg10.out.below hb (by omega)); clear hb; have vx0 := (Yxg11.out.2 0 _ rfl).1; have vx1 := (Yxg11.out.2 1 _ rfl).1; have vx2 := (Yxg11.out.2 2 _ rfl).1; have vx3 := (Yxg11.out.2 3 _ rfl).1; have vx4 := (Yxg11.out.2 4 _ rfl).1; have vx5 := (Yxg11.out.2 5 _ rfl).1; have vd0 := (Ydg11.out.2 0 _ rfl).1; have vd1 := (Ydg11.out.2 1 _ rfl).1; have vd2 := (Ydg11.out.2 2 _ rfl).1; have vd3 := (Ydg11.out.2 3 _ rfl).1; have vd4 := (Ydg11.out.2 4 _ rfl).1; have vd5 := (Ydg11.out.2 5 _ rfl).1)
          clear hHeld
          refine hK.out _ _ (by (try dsimp only); go_keep) (fun hHeld => ?_)
          clear hK K
          (try simp only [Act.put, List.setIfInBounds_toArray, List.set_cons_zero, List.set_cons_succ])
          refine wpAnyH_take (i := 8) (oi := ?oi184) (v := ?v184) ?hi184 (by kernel_rfl) (by kernel_rfl) (by kernel_rfl) ?hq184 (Or.inl ⟨?hw184, ?hy184⟩) (by assumption) ?_
          case hi184 => simp only [List.getElem?_toArray, List.getElem?_cons_succ, List.getElem?_cons_zero]; rfl
          case hw184 => rfl
          case hq184 => exact fun _ _ _ h => h
          case hy184 => intro w hSw; (try dsimp only at hSw); go_simp; (try with_reducible rfl)
          (try simp only [Act.put, List.setIfInBounds_toArray, List.set_cons_zero, List.set_cons_succ])
          refine wpAnyH_take (i := 9) (oi := ?oi185) (v := ?v185) ?hi185 (by kernel_rfl) (by kernel_rfl) (by kernel_rfl) ?hq185 (Or.inl ⟨?hw185, ?hy185⟩) (by assumption) ?_
          case hi185 => simp only [List.getElem?_toArray, List.getElem?_cons_succ, List.getElem?_cons_zero]; rfl
          case hw185 => rfl
          case hq185 => exact fun _ _ _ h => h
          case hy185 => intro w hSw; (try dsimp only at hSw); go_simp; (try with_reducible rfl)
          (try simp only [Act.put, List.setIfInBounds_toArray, List.set_cons_zero, List.set_cons_succ])
          refine wpAnyH_take (i := 10) (oi := ?oi186) (v := ?v186) ?hi186 (by kernel_rfl) (by kernel_rfl) (by kernel_rfl) ?hq186 (Or.inl ⟨?hw186, ?hy186⟩) (by assumption) ?_
          case hi186 => simp only [List.getElem?_toArray, List.getElem?_cons_succ, List.getElem?_cons_zero]; rfl
          case hw186 => rfl
          case hq186 => exact fun _ _ _ h => h
          case hy186 => intro w hSw; (try dsimp only at hSw); go_simp; (try with_reducible rfl)
          (try simp only [Act.put, List.setIfInBounds_toArray, List.set_cons_zero, List.set_cons_succ])
          refine wpAnyH_take (i := 11) (oi := ?oi187) (v := ?v187) ?hi187 (by kernel_rfl) (by kernel_rfl) (by kernel_rfl) ?hq187 (Or.inl ⟨?hw187, ?hy187⟩) (by assumption) ?_
          case hi187 => simp only [List.getElem?_toArray, List.getElem?_cons_succ, List.getElem?_cons_zero]; rfl
          case hw187 => rfl
          case hq187 => exact fun _ _ _ h => h
          case hy187 => intro w hSw; (try dsimp only at hSw); go_simp; (try with_reducible rfl)
          (try simp only [Act.put, List.setIfInBounds_toArray, List.set_cons_zero, List.set_cons_succ])
          refine wpAnyH_take (i := 12) (oi := ?oi188) (v := undef) ?hi188 (by kernel_rfl) (by kernel_rfl) (by kernel_rfl) ?hq188 (Or.inr ⟨?hw188, rfl⟩) (by assumption) ?_
          case hi188 => simp only [List.getElem?_toArray, List.getElem?_cons_succ, List.getElem?_cons_zero]; rfl
          case hw188 => rfl
          case hq188 => exact fun _ _ _ h => h
          (try simp only [Act.put, List.setIfInBounds_toArray, List.set_cons_zero, List.set_cons_succ])
          refine wpAnyH_take (i := 13) (oi := ?oi189) (v := undef) ?hi189 (by kernel_rfl) (by kernel_rfl) (by kernel_rfl) ?hq189 (Or.inr ⟨?hw189, rfl⟩) (by assumption) ?_
          case hi189 => simp only [List.getElem?_toArray, List.getElem?_cons_succ, List.getElem?_cons_zero]; rfl
          case hw189 => rfl
          case hq189 => exact fun _ _ _ h => h
          (try simp only [Act.put, List.setIfInBounds_toArray, List.set_cons_zero, List.set_cons_succ])
          refine wpAnyH_take (i := 14) (oi := ?oi190) (v := undef) ?hi190 (by kernel_rfl) (by kernel_rfl) (by kernel_rfl) ?hq190 (Or.inr ⟨?hw190, rfl⟩) (by assumption) ?_
          case hi190 => simp only [List.getElem?_toArray, List.getElem?_cons_succ, List.getElem?_cons_zero]; rfl
          case hw190 => rfl
          case hq190 => exact fun _ _ _ h => h
          (try simp only [Act.put, List.setIfInBounds_toArray, List.set_cons_zero, List.set_cons_succ])
          refine wpAnyH_take (i := 15) (oi := ?oi191) (v := undef) ?hi191 (by kernel_rfl) (by kernel_rfl) (by kernel_rfl) ?hq191 (Or.inr ⟨?hw191, rfl⟩) (by assumption) ?_
          case hi191 => simp only [List.getElem?_toArray, List.getElem?_cons_succ, List.getElem?_cons_zero]; rfl
          case hw191 => rfl
          case hq191 => exact fun _ _ _ h => h
          (try simp only [Act.put, List.setIfInBounds_toArray, List.set_cons_zero, List.set_cons_succ])
          refine wpAnyH_take (i := 16) (oi := ?oi192) (v := undef) ?hi192 (by kernel_rfl) (by kernel_rfl) (by kernel_rfl) ?hq192 (Or.inr ⟨?hw192, rfl⟩) (by assumption) ?_
          case hi192 => simp only [List.getElem?_toArray, List.getElem?_cons_succ, List.getElem?_cons_zero]; rfl
          case hw192 => rfl
          case hq192 => exact fun _ _ _ h => h
          (try simp only [Act.put, List.setIfInBounds_toArray, List.set_cons_zero, List.set_cons_succ])
          refine wpAnyH_take (i := 17) (oi := ?oi193) (v := undef) ?hi193 (by kernel_rfl) (by kernel_rfl) (by kernel_rfl) ?hq193 (Or.inr ⟨?hw193, rfl⟩) (by assumption) ?_
          case hi193 => simp only [List.getElem?_toArray, List.getElem?_cons_succ, List.getElem?_cons_zero]; rfl
          case hw193 => rfl
          case hq193 => exact fun _ _ _ h => h
          (try simp only [Act.put, List.setIfInBounds_toArray, List.set_cons_zero, List.set_cons_succ])
          refine wpAnyH_take (i := 18) (oi := ?oi194) (v := undef) ?hi194 (by kernel_rfl) (by kernel_rfl) (by kernel_rfl) ?hq194 (Or.inr ⟨?hw194, rfl⟩) (by assumption) ?_
          case hi194 => simp only [List.getElem?_toArray, List.getElem?_cons_succ, List.getElem?_cons_zero]; rfl
          case hw194 => rfl
          case hq194 => exact fun _ _ _ h => h
          (try simp only [Act.put, List.setIfInBounds_toArray, List.set_cons_zero, List.set_cons_succ])
          refine wpAnyH_take (i := 19) (oi := ?oi195) (v := ?v195) ?hi195 (by kernel_rfl) (by kernel_rfl) (by kernel_rfl) ?hq195 (Or.inl ⟨?hw195, ?hy195⟩) (by assumption) ?_
          case hi195 => simp only [List.getElem?_toArray, List.getElem?_cons_succ, List.getElem?_cons_zero]; rfl
          case hw195 => rfl
          case hq195 => exact fun _ _ _ h => h
          case hy195 => intro w hSw; (try dsimp only at hSw); go_simp; (try with_reducible rfl)
          (try simp only [Act.put, List.setIfInBounds_toArray, List.set_cons_zero, List.set_cons_succ])
          refine wpAnyH_take (i := 20) (oi := ?oi196) (v := ?v196) ?hi196 (by kernel_rfl) (by kernel_rfl) (by kernel_rfl) ?hq196 (Or.inl ⟨?hw196, ?hy196⟩) (by assumption) ?_
          case hi196 => simp only [List.getElem?_toArray, List.getElem?_cons_succ, List.getElem?_cons_zero]; rfl
          case hw196 => rfl
          case hq196 => exact fun _ _ _ h => h
          case hy196 => intro w hSw; (try dsimp only at hSw); go_simp; (try with_reducible rfl)
          (try simp only [Act.put, List.setIfInBounds_toArray, List.set_cons_zero, List.set_cons_succ])
          refine wpAnyH_take (i := 21) (oi := ?oi197) (v := ?v197) ?hi197 (by kernel_rfl) (by kernel_rfl) (by kernel_rfl) ?hq197 (Or.inl ⟨?hw197, ?hy197⟩) (by assumption) ?_
          case hi197 => simp only [List.getElem?_toArray, List.getElem?_cons_succ, List.getElem?_cons_zero]; rfl
          case hw197 => rfl
          case hq197 => exact fun _ _ _ h => h
          case hy197 => intro w hSw; (try dsimp only at hSw); go_simp; (try with_reducible rfl)
          (try simp only [Act.put, List.setIfInBounds_toArray, List.set_cons_zero, List.set_cons_succ])
          refine wpAnyH_take (i := 22) (oi := ?oi198) (v := ?v198) ?hi198 (by kernel_rfl) (by kernel_rfl) (by kernel_rfl) ?hq198 (Or.inl ⟨?hw198, ?hy198⟩) (by assumption) ?_
          case hi198 => simp only [List.getElem?_toArray, List.getElem?_cons_succ, List.getElem?_cons_zero]; rfl
          case hw198 => rfl
          case hq198 => exact fun _ _ _ h => h
          case hy198 => intro w hSw; (try dsimp only at hSw); go_simp; (try with_reducible rfl)
          (try simp only [Act.put, List.setIfInBounds_toArray, List.set_cons_zero, List.set_cons_succ])
          refine wpAnyH_take (i := 23) (oi := ?oi199) (v := ?v199) ?hi199 (by kernel_rfl) (by kernel_rfl) (by kernel_rfl) ?hq199 (Or.inl ⟨?hw199, ?hy199⟩) (by assumption) ?_
          case hi199 => simp only [List.getElem?_toArray, List.getElem?_cons_succ, List.getElem?_cons_zero]; rfl
          case hw199 => rfl
          case hq199 => exact fun _ _ _ h => h
          case hy199 => intro w hSw; (try dsimp only at hSw); go_simp; (try with_reducible rfl)
          (try simp only [Act.put, List.setIfInBounds_toArray, List.set_cons_zero, List.set_cons_succ])
          refine wpAnyH_take (i := 24) (oi := ?oi200) (v := ?v200) ?hi200 (by kernel_rfl) (by kernel_rfl) (by kernel_rfl) ?hq200 (Or.inl ⟨?hw200, ?hy200⟩) (by assumption) ?_
          case hi200 => simp only [List.getElem?_toArray, List.getElem?_cons_succ, List.getElem?_cons_zero]; rfl
          case hw200 => rfl
          case hq200 => exact fun _ _ _ h => h
          case hy200 => intro w hSw; (try dsimp only at hSw); go_simp; (try with_reducible rfl)
          (try simp only [Act.put, List.setIfInBounds_toArray, List.set_cons_zero, List.set_cons_succ])
          refine wpAnyH_take (i := 25) (oi := ?oi201) (v := ?v201) ?hi201 (by kernel_rfl) (by kernel_rfl) (by kernel_rfl) ?hq201 (Or.inl ⟨?hw201, ?hy201⟩) (by assumption) ?_
          case hi201 => simp only [List.getElem?_toArray, List.getElem?_cons_succ, List.getElem?_cons_zero]; rfl
          case hw201 => rfl
          case hq201 => exact fun _ _ _ h => h
          case hy201 => intro w hSw; (try dsimp only at hSw); go_simp; (try with_reducible rfl)
          (try simp only [Act.put, List.setIfInBounds_toArray, List.set_cons_zero, List.set_cons_succ])
          refine wpAnyH_take (i := 26) (oi := ?oi202) (v := ?v202) ?hi202 (by kernel_rfl) (by kernel_rfl) (by kernel_rfl) ?hq202 (Or.inl ⟨?hw202, ?hy202⟩) (by assumption) ?_
          case hi202 => simp only [List.getElem?_toArray, List.getElem?_cons_succ, List.getElem?_cons_zero]; rfl
          case hw202 => rfl
          case hq202 => exact fun _ _ _ h => h
          case hy202 => intro w hSw; (try dsimp only at hSw); go_simp; (try with_reducible rfl)
          (try simp only [Act.put, List.setIfInBounds_toArray, List.set_cons_zero, List.set_cons_succ])
          refine wpAnyH_take (i := 27) (oi := ?oi203) (v := ?v203) ?hi203 (by kernel_rfl) (by kernel_rfl) (by kernel_rfl) ?hq203 (Or.inl ⟨?hw203, ?hy203⟩) (by assumption) ?_
          case hi203 => simp only [List.getElem?_toArray, List.getElem?_cons_succ, List.getElem?_cons_zero]; rfl
          case hw203 => rfl
          case hq203 => exact fun _ _ _ h => h
          case hy203 => intro w hSw; (try dsimp only at hSw); go_simp; (try with_reducible rfl)
          (try simp only [Act.put, List.setIfInBounds_toArray, List.set_cons_zero, List.set_cons_succ])
          refine wpAnyH_take (i := 28) (oi := ?oi204) (v := ?v204) ?hi204 (by kernel_rfl) (by kernel_rfl) (by kernel_rfl) ?hq204 (Or.inl ⟨?hw204, ?hy204⟩) (by assumption) ?_
          case hi204 => simp only [List.getElem?_toArray, List.getElem?_cons_succ, List.getElem?_cons_zero]; rfl
          case hw204 => rfl
          case hq204 => exact fun _ _ _ h => h
          case hy204 => intro w hSw; (try dsimp only at hSw); go_simp; (try with_reducible rfl)
          (try simp only [Act.put, List.setIfInBounds_toArray, List.set_cons_zero, List.set_cons_succ])
          refine wpAnyH_take (i := 29) (oi := ?oi205) (v := ?v205) ?hi205 (by kernel_rfl) (by kernel_rfl) (by kernel_rfl) ?hq205 (Or.inl ⟨?hw205, ?hy205⟩) (by assumption) ?_
          case hi205 => simp only [List.getElem?_toArray, List.getElem?_cons_succ, List.getElem?_cons_zero]; rfl
          case hw205 => rfl
          case hq205 => exact fun _ _ _ h => h
          case hy205 => intro w hSw; (try dsimp only at hSw); go_simp; (try with_reducible rfl)
          (try simp only [Act.put, List.setIfInBounds_toArray, List.set_cons_zero, List.set_cons_succ])
          refine wpAnyH_take (i := 30) (oi := ?oi206) (v := ?v206) ?hi206 (by kernel_rfl) (by kernel_rfl) (by kernel_rfl) ?hq206 (Or.inl ⟨?hw206, ?hy206⟩) (by assumption) ?_
          case hi206 => simp only [List.getElem?_toArray, List.getElem?_cons_succ, List.getElem?_cons_zero]; rfl
          case hw206 => rfl
          case hq206 => exact fun _ _ _ h => h
          case hy206 => intro w hSw; (try dsimp only at hSw); go_simp; (try with_reducible rfl)
          (try simp only [Act.put, List.setIfInBounds_toArray, List.set_cons_zero, List.set_cons_succ])
          refine wpAnyH_take (i := 31) (oi := ?oi207) (v := ?v207) ?hi207 (by kernel_rfl) (by kernel_rfl) (by kernel_rfl) ?hq207 (Or.inl ⟨?hw207, ?hy207⟩) (by assumption) ?_
          case hi207 => simp only [List.getElem?_toArray, List.getElem?_cons_succ, List.getElem?_cons_zero]; rfl
          case hw207 => rfl
          case hq207 => exact fun _ _ _ h => h
          case hy207 => intro w hSw; (try dsimp only at hSw); go_simp; (try with_reducible rfl)
          (try simp only [Act.put, List.setIfInBounds_toArray, List.set_cons_zero, List.set_cons_succ])
          refine wpAnyH_ready (rs := [32]) (by kernel_rfl) (by simp) ?_
          refine AllReadyH.cons (o := ?o208) ?ho208 (fun K hK => ?_) AllReadyH.nil
          case ho208 => simp only [List.getElem?_toArray, List.getElem?_cons_succ, List.getElem?_cons_zero]; rfl
          go_simp
          (go_at_call 16; (with_reducible refine (to_boolN (ValidReader_any ((x1.out.drew.below HRg10.out (by first | omega | (simp; omega) | (simp; done))).below HRg11.out (by first | omega | (simp; omega) | (simp; done))) ((x2.out.drew.below HRg10.out (by first | omega | (simp; omega) | (simp; done))).below HRg11.out (by first | omega | (simp; omega) | (simp; done))) ((x3.out.drew.below HRg10.out (by first | omega | (simp; omega) | (simp; done))).below HRg11.out (by first | omega | (simp; omega) | (simp; done))) (by first | omega | (simp; omega) | (simp; done)) (by first | omega | (simp; omega) | (simp; done)) (by first | omega | (simp; omega) | (simp; done)) hcx) VX.out).mono ?_); rintro e wg12 ⟨rfl, hb⟩; (try simp only [World.size_alloc, World.size_setCell, World.size_drew] at hb); have HRg12 := Lib.hid hb; have srg12 := hb.size; (try simp only [World.size_alloc, World.size_setCell, World.size_drew] at srg12); have Yxg12 := Lib.hid (Yxg11.out.below hb (by omega)); have Ydg12 := Lib.hid (Ydg11.out.below hb (by omega)); clear hb; have vx0 := (Yxg12.out.2 0 _ rfl).1; have vx1 := (Yxg12.out.2 1 _ rfl).1; have vx2 := (Yxg12.out.2 2 _ rfl).1; have vx3 := (Yxg12.out.2 3 _ rfl).1; have vx4 := (Yxg12.out.2 4 _ rfl).1; have vx5 := (Yxg12.out.2 5 _ rfl).1; have vd0 := (Ydg12.out.2 0 _ rfl).1; have vd1 := (Ydg12.out.2 1 _ rfl).1; have vd2 := (Ydg12.out.2 2 _ rfl).1; have vd3 := (Ydg12.out.2 3 _ rfl).1; have vd4 := (Ydg12.out.2 4 _ rfl).1; have vd5 := (Ydg12.out.2 5 _ rfl).1)
          clear hHeld
          refine hK.out _ _ (by (try dsimp only); go_keep) (fun hHeld => ?_)
          clear hK K
          (try simp only [Act.put, List.setIfInBounds_toArray, List.set_cons_zero, List.set_cons_succ])
          refine wpAnyH_take (i := 33) (oi := ?oi209) (v := ?v209) ?hi209 (by kernel_rfl) (by kernel_rfl) (by kernel_rfl) ?hq209 (Or.inl ⟨?hw209, ?hy209⟩) (by assumption) ?_
          case hi209 => simp only [List.getElem?_toArray, List.getElem?_cons_succ, List.getElem?_cons_zero]; rfl
          case hw209 => rfl
          case hq209 => exact fun _ _ _ h => h
          case hy209 => intro w hSw; (try dsimp only at hSw); go_simp; (try with_reducible rfl)
          (try simp only [Act.put, List.setIfInBounds_toArray, List.set_cons_zero, List.set_cons_succ])
          refine wpAnyH_take (i := 34) (oi := ?oi210) (v := ?v210) ?hi210 (by kernel_rfl) (by kernel_rfl) (by kernel_rfl) ?hq210 (Or.inl ⟨?hw210, ?hy210⟩) (by assumption) ?_
          case hi210 => simp only [List.getElem?_toArray, List.getElem?_cons_succ, List.getElem?_cons_zero]; rfl
          case hw210 => rfl
          case hq210 => exact fun _ _ _ h => h
          case hy210 => intro w hSw; (try dsimp only at hSw); go_simp; (try with_reducible rfl)
          (try simp only [Act.put, List.setIfInBounds_toArray, List.set_cons_zero, List.set_cons_succ])
          refine wpAnyH_done (by kernel_rfl) ?_ _
          go_wp2
          go_ret
          exact ⟨rfl, (below_step HRg12.out (below_step HRg11.out (below_step HRg10.out EB.out.drew (by first | omega | (simp; omega) | (simp; done))) (by first | omega | (simp; omega) | (simp; done))) (by first | omega | (simp; omega) | (simp; done)))⟩

theorem contract (H : Type) (enc : TypeId × Value → H) (W : World) (base : Nat) (args : Array Value) (ds gs : List (DataW H)) (before : List MemPlace)
    (hval : ∀ (j : Nat) t v, Try.f6.params[j]? = some t → args[j]? = some v → Value.okWide Try.prog W .any base t v)
    (hW : DataW.Whole enc Try.prog Try.f6.params.toList Rows.fnSeekReaderSpec.vars false W args.toList ds gs before) :
    Calls Try.prog 6 args W fun e W' => ∃ v, e = .returned v ∧ Rows.fnSeekReaderSpec.post enc Try.prog Try.f6 false true false false W args v W' := by
  have hW' := hW
  have hlt : ∀ p ∈ before, p.block < W.heap.size := fun p hp => hW.lt p hp
  obtain ⟨p, q, hA0, hV, rfl, hfz, hnd⟩ := hW
  have hA : DataW.TrodAll enc Try.prog W 0 (fun _ => true) true Try.f6.params.toList args.toList ds p := hA0
  rw [Try.params6] at hA hval
  obtain ⟨v0, vs0, d0, ds0, p0, q0, hargs, rfl, rfl, h0, r0⟩ := trodAll_cons hA
  obtain ⟨rfl, rfl, rfl⟩ := trodAll_nil r0
  obtain rfl : args = #[v0] := by cases args; simp_all
  obtain ⟨rfl, rfl⟩ := trodVars_none hV
  obtain ⟨A, n, c, rfl, hnc, hby, hmx⟩ := arg_bytes (hval 0 _ v0 rfl rfl) h0 (fun p hp => hlt p (by simp [hp]))
  refine (walk A n c W hby hnc hmx).mono fun e W' hh => ?_
  obtain ⟨rfl, hb⟩ := hh
  exact ⟨_, rfl, law_post laidOut (tys_of (by rw [Try.params6]; kernel_rfl)) hW' rfl rfl rfl Try.underlying4 hb⟩

set_option maxRecDepth 100000 in
theorem lifted (os : Os) (started : os.Started) (H : Type) (enc : TypeId × Value → H) :
    ReturnsInHanded {} Try.checked os 6 .any (Rows.fnSeekReaderSpec.pre6 enc Try.prog Try.f6 Rows.fnSeekReaderRow.domain false) (Rows.fnSeekReaderSpec.post enc Try.prog Try.f6 false true false false) := by
  refine returnsInHanded_of_change (C := Try.checked) own started (by kernel_rfl) Try.func6
    (ChangeSpec.witness6 (C := Try.checked) false ⟨#[], #[.slice none 0 0], []⟩ 8 (by kernel_rfl) (by kernel_rfl) (by kernel_rfl) (by kernel_rfl)) ?_
  intro W base args ds gs before hval hW _ _
  exact contract H enc W base args ds gs before hval hW

theorem holds : Rows.FnSeekReaderSaid :=
  OpenClaim.holds_of_wide 6 Try.f6 rfl rfl rfl rfl rfl rfl rfl ⟨rfl, rfl, rfl, rfl, rfl⟩ rfl rfl rfl rfl rfl (by kernel_rfl) Try.func6 (by kernel_rfl)
    (of_decide_eq_true (by kernel_rfl)) (by unfold Func.isWrapper; first | (rw [if_pos (by decide +kernel)]; kernel_rfl) | (rw [if_neg (by decide +kernel)]; exact ⟨rfl, rfl⟩))
    (fun os started H enc _ => lifted os started H enc)
end LawSeekReader
end Go.Proofs.Ytmjmplfhedknhaa
