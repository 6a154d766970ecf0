/- The law of promise 24: a reader that goes back by as much as it read has ahead what was ahead. No conditions. -/
import Derived.Test.YtmjmplfhedknhaaH1
import Derived.Test.YtmjmplfhedknhaaH3
import Derived.Test.YtmjmplfhedknhaaS2g
import Derived.Test.YtmjmplfhedknhaaS2h
set_option maxRecDepth 10000
namespace Go.Proofs.Ytmjmplfhedknhaa
open Go.ChangeShapes Go.WideShapes Go.ChangeAt Go.RowKit
set_option linter.unusedSimpArgs false
set_option linter.unusedVariables false
namespace LawSeekReaderBack
theorem fullGo_st {D S : List Int} {z : Int} {N : Nat} : ∀ (f : Nat) (p : Int) (a : Nat) (R out : List Int), ¬ (fullGo D S z N f p a R out).st = 5 := by
  intro f
  induction f with
  | zero => intro p a R out; simp [fullGo]
  | succ f ih =>
    intro p a R out
    simp only [fullGo]
    split
    · simp
    · split
      · exact ih _ _ _ _
      · exact flS_not5 D S R p a
theorem rfull_no {D S R : List Int} {p q z N : Int} (h : (goodR D p S q R z && inB N 0 60) = false) : fullOut D p S q R z N = (⟨[], 0, [], 0, [], 0⟩, [], 5) := by
  unfold fullOut; rw [h]; rfl
theorem rfull_yes {D S R : List Int} {p q z N : Int} (h : (goodR D p S q R z && inB N 0 60) = true) : ∃ (t : Nat) (P Q : Int) (R1 L : List Int) (st : Int),
    fullOut D p S q R z N = (⟨D, P, S, Q, R1, z⟩, L, st) ∧ ¬ st = 5 ∧ tellOut D p S q R z = (t : Int) ∧ R ++ restL D p S q = D.drop t ∧ validR D P S Q R1 z = true ∧ tellOut D P S Q R1 z = (t : Int) + (L.length : Int) ∧ R1 ++ restL D P S Q = (D.drop t).drop L.length ∧ R1.length ≤ 16 ∧ L.isPrefixOf (D.drop t) = true ∧ (L.length : Int) ≤ N ∧
    ((st = 0 ∧ (L.length : Int) = N) ∨ (¬ st = 0 ∧ (L.length : Int) < N)) := by
  have h0 := h
  rw [Bool.and_eq_true] at h
  obtain ⟨hg, hN⟩ := h
  obtain ⟨t, hat, hv, hqq, hq9, hz, hRz, htl, hah⟩ := good_at hg
  have hN2 : 0 ≤ N ∧ N ≤ 60 := by simpa [inB] using hN
  obtain ⟨hvr, _⟩ := goodR_iff.1 hg
  have hk := start_ok hvr
  have hinv := fullGo_inv (N := N.toNat) hz.1 62 p q.toNat R [] hv (by simpa using hk) (by simp; omega)
  have h5 := fullGo_st (D := D) (S := S) (z := z) (N := N.toNat) 62 p q.toNat R []
  obtain ⟨m, h1, h2, h3, h4, h6, h7, h8, _, _⟩ := fullGo_at (N := N.toNat) hz.1 62 p q.toNat R [] t hv (by omega) hat hRz (by simp) (by simp; omega)
  have ho : fullOut D p S q R z N = rsOut D S z (fullGo D S z N.toNat 62 p q.toNat R []) := by unfold fullOut; rw [h0]; rfl
  generalize fullGo D S z N.toNat 62 p q.toNat R [] = o at *
  have hgv : Gave D S z t (t + m) o.p (o.a : Int) o.r := h1.gave hinv.1 hz h4
  have hL : o.out = (D.drop t).take m := by rw [h2]; rfl
  have hm : o.out.length = m := by rw [hL, List.length_take]; omega
  simp only [List.length_nil, Nat.zero_add] at h6 h7 h8
  refine ⟨t, o.p, (o.a : Int), o.r, o.out, o.st, ho, h5, htl, hah, hgv.1, ?_, ?_, hgv.2.2.2, ?_, by omega, ?_⟩
  · rw [hgv.2.1, hm]; omega
  · rw [hgv.2.2.1, hm, List.drop_drop]
  · rw [hL]; exact take_pre _ _
  · by_cases hst : o.st = 0
    · exact .inl ⟨hst, by have := h7 hst; omega⟩
    · exact .inr ⟨hst, by have := h8 hst; omega⟩
theorem rrest_no {D S R : List Int} {p q z : Int} (h : goodR D p S q R z = false) : restOut D p S q R z = (⟨[], 0, [], 0, [], 0⟩, [], 5) := by
  unfold restOut; rw [h]; rfl
theorem rrest_yes {D S R : List Int} {p q z : Int} (hg : goodR D p S q R z = true) : ∃ (t : Nat) (P Q : Int) (R1 L : List Int) (st : Int),
    restOut D p S q R z = (⟨D, P, S, Q, R1, z⟩, L, st) ∧ ¬ st = 5 ∧ ¬ st = 0 ∧ R ++ restL D p S q = D.drop t ∧ R1.length ≤ 16 ∧ L.isPrefixOf (D.drop t) = true ∧
    (st = 1 → R1 ++ restL D P S Q = [] ∧ L = D.drop t) ∧ ((validD D p S q && smoothB S q.toNat) = true → st = 1) := by
  obtain ⟨t, hat, hv, hqq, hq9, hz, hRz, htl, hah⟩ := good_at hg
  obtain ⟨hvr, _⟩ := goodR_iff.1 hg
  have hk := start_ok hvr
  have hinv := fullGo_inv (N := 61) hz.1 62 p q.toNat R [] hv (by simpa using hk) (by simp; omega)
  have h5 := fullGo_st (D := D) (S := S) (z := z) (N := 61) 62 p q.toNat R []
  obtain ⟨m, h1, h2, h3, h4, h6, h7, h8, h9, h10⟩ := fullGo_at (N := 61) hz.1 62 p q.toNat R [] t hv (by omega) hat hRz (by simp) (by simp)
  have ho : restOut D p S q R z = rsOut D S z (fullGo D S z 61 62 p q.toNat R []) := by unfold restOut; rw [hg]; rfl
  generalize fullGo D S z 61 62 p q.toNat R [] = o at *
  have hgv : Gave D S z t (t + m) o.p (o.a : Int) o.r := h1.gave hinv.1 hz h4
  have hL : o.out = (D.drop t).take m := by rw [h2]; rfl
  have hD := bytesB_le (validD_iff.1 hv).1
  have h0 : ¬ o.st = 0 := fun e => by
    have a1 := h7 e
    simp only [List.length_nil] at a1
    rw [List.length_drop] at h3
    omega
  refine ⟨t, o.p, (o.a : Int), o.r, o.out, o.st, ho, h5, h0, hah, hgv.2.2.2, by rw [hL]; exact take_pre _ _, fun e => ?_, fun e => ?_⟩
  · have a1 := h9 e
    exact ⟨by rw [hgv.2.2.1]; exact List.drop_eq_nil_of_le a1, by rw [hL]; exact List.take_of_length_le (by rw [List.length_drop]; omega)⟩
  · rcases h10 (Bool.and_eq_true_iff.1 e).2 with a1 | a1
    · exact absurd a1 h0
    · exact a1
/-- A reader of numbers that are named, and a bool. -/
theorem to_rbR {f : Nat} {args : Array Value} {w : World} {o : Rv × Bool} {D S R : List Int} {p q z : Int} {b : Bool} (h : Calls Try.prog f args w (Post2R o w)) (e : o = (⟨D, p, S, q, R, z⟩, b)) :
    Calls Try.prog f args w (fun e w' => ∃ A n c A' n' c' A2 n2 c2, e = .returned (.tuple #[.agg #[.slice (A) n c, .int .i64 (p), .slice (A') n' c', .int .i64 (q), .slice (A2) n2 c2, .int .i64 (z)], .bool b]) ∧ (n ≤ c ∧ n' ≤ c' ∧ n2 ≤ c2) ∧ Below w.heap.size w w' ∧
      Ints w' w.heap.size w'.heap.size A n D ∧ Ints w' w.heap.size w'.heap.size A' n' S ∧ Ints w' w.heap.size w'.heap.size A2 n2 R) := by
  subst e
  exact h.mono fun e w' hh => by
    obtain ⟨A, n, c, A', n', c', A2, n2, c2, he, hc, hb, ⟨⟨hd, hd', _, _, _⟩, hr, _, _, _⟩⟩ := hh
    exact ⟨A, n, c, A', n', c', A2, n2, c2, he, hc, hb, hd, hd', hr⟩
theorem seekAt_ofR {size now off wh t : Int} (h : seekAt size now off wh = some t) : (0 ≤ t ∧ t ≤ 60) ∧ (0 ≤ wh ∧ wh ≤ 2) ∧ (-60 ≤ off ∧ off ≤ 60) ∧ t = (if wh = 1 then now + off else if wh = 2 then size + off else off) := by
  unfold seekAt at h
  generalize (if wh = 1 then now + off else if wh = 2 then size + off else off) = u at h ⊢
  split at h
  · rename_i h1
    split at h
    · rename_i h2
      injection h with h
      subst h
      simp [inB] at h1 h2
      exact ⟨h2, by omega, by omega, rfl⟩
    · cases h
  · cases h
theorem rseek_no {D S R : List Int} {p q z off wh : Int} (h : (seekROut D p S q R z off wh).2 = false) : seekROut D p S q R z off wh = (⟨[], 0, [], 0, [], 0⟩, false) := by
  unfold seekROut at h ⊢
  split at h
  · cases h
  · rename_i h1
    rw [if_neg h1]; rfl
theorem rseek_yes {D S R : List Int} {p q z off wh : Int} (h : (seekROut D p S q R z off wh).2 = true) : ∃ (t T : Nat) (P : Int) (R1 : List Int),
    seekROut D p S q R z off wh = (⟨D, P, S, q, R1, z⟩, true) ∧ tellOut D p S q R z = (t : Int) ∧ R ++ restL D p S q = D.drop t ∧ validR D P S q R1 z = true ∧ tellOut D P S q R1 z = (T : Int) ∧ R1 ++ restL D P S q = D.drop T ∧ R1.length ≤ 16 ∧ T ≤ 60 ∧ (t ≤ T → (T : Int) ≤ p → P = p) := by
  unfold seekROut at h ⊢
  split at h
  · rename_i h1
    rw [if_pos h1]
    obtain ⟨hv, hs⟩ := Bool.and_eq_true_iff.1 h1
    obtain ⟨x, hx⟩ := Option.isSome_iff_exists.1 hs
    obtain ⟨hx0, _, _, _⟩ := seekAt_ofR hx
    obtain ⟨T, rfl⟩ := Int.eq_ofNat_of_zero_le hx0.1
    rw [hx]
    obtain ⟨t, hat⟩ := RAt.of_valid hv
    obtain ⟨hvd, hz, hRz, _⟩ := validR_iff.1 hv
    have hp := hat.1
    have ht := hat.tell hv
    have hah := hat.ahead hvd
    show ∃ (t T1 : Nat) (P : Int) (R1 : List Int), ((⟨D, skP p R (T : Int), S, q, skR p R (T : Int), z⟩ : Rv), true) = (⟨D, P, S, q, R1, z⟩, true) ∧ _
    have hq0 := (validD_iff.1 hvd).2.2.2.2
    have hqq : (q.toNat : Int) = q := Int.toNat_of_nonneg hq0.1
    by_cases hi : skIn p R (T : Int) = true
    · have e1 : skP p R (T : Int) = p := by unfold skP; rw [if_pos hi]
      have e2 : skR p R (T : Int) = R.drop (T - t) := by unfold skR; rw [if_pos hi]; congr 1; omega
      rw [e1, e2]
      have hi2 : (p - (R.length : Int)) ≤ (T : Int) ∧ (T : Int) ≤ p := by simpa [skIn, inB] using hi
      have hd := hat.drop (m := T - t) (by omega)
      rw [show t + (T - t) = T by omega] at hd
      have hvr := hd.valid hvd hz (by rw [List.length_drop]; omega)
      exact ⟨t, T, p, R.drop (T - t), rfl, ht, hah, hvr, hd.tell hvr, hd.ahead hvd, by rw [List.length_drop]; omega, by omega, fun _ _ => rfl⟩
    · have e1 : skP p R (T : Int) = (T : Int) := by unfold skP; rw [if_neg hi]
      have e2 : skR p R (T : Int) = [] := by unfold skR; rw [if_neg hi]
      rw [e1, e2]
      have hi2 : ¬ ((p - (R.length : Int)) ≤ (T : Int) ∧ (T : Int) ≤ p) := by simpa [skIn, inB] using hi
      have hd : RAt D (T : Int) [] T := ⟨by simp, by simp, .inl rfl⟩
      have hv2 : validD D (T : Int) S q = true := by
        have h1 := validD_iff.1 hvd
        exact validD_iff.2 ⟨h1.1, h1.2.1, h1.2.2.1, by omega, h1.2.2.2.2⟩
      have hvr := hd.valid hv2 hz (by simp; omega)
      exact ⟨t, T, (T : Int), [], rfl, ht, hah, hvr, hd.tell hvr, hd.ahead hv2, by simp, by omega, fun h1 h2 => absurd ⟨by omega, h2⟩ hi2⟩
  · cases h
theorem rseek_back {D S R : List Int} {p q z : Int} {t m : Nat} (hv : validR D p S q R z = true) (ht : tellOut D p S q R z = (t : Int) + (m : Int)) (hm : m ≤ 60) : ∃ (P : Int) (R1 : List Int),
    seekROut D p S q R z (-(m : Int)) 1 = (⟨D, P, S, q, R1, z⟩, true) ∧ validR D P S q R1 z = true ∧ tellOut D P S q R1 z = (t : Int) ∧ R1 ++ restL D P S q = D.drop t ∧ R1.length ≤ 16 := by
  have hp : p - (R.length : Int) = (t : Int) + (m : Int) := by rw [← ht]; unfold tellOut; rw [hv]; rfl
  have h60 := tell_ok hv
  have hs : seekAt D.length (p - (R.length : Int)) (-(m : Int)) 1 = some (t : Int) := by
    unfold seekAt
    rw [hp]
    simp [inB]
    omega
  have h2 : (seekROut D p S q R z (-(m : Int)) 1).2 = true := by
    unfold seekROut; rw [hv, hs]; rfl
  obtain ⟨t1, T, P, R1, ho, _, _, h3, h4, h5, h6, _, _⟩ := rseek_yes h2
  have e : (T : Int) = (t : Int) := by
    rw [← h4]
    unfold seekROut at ho
    rw [hv, hs] at ho
    simp only [seekOk, Option.isSome_some, Bool.and_self, if_true, Prod.mk.injEq, and_true] at ho
    injection ho with _ e1 _ _ e2 _
    rw [← e1, ← e2] at h3 ⊢
    unfold tellOut
    rw [h3]
    show skP p R (t : Int) - ((skR p R (t : Int)).length : Int) = (t : Int)
    unfold skP skR
    by_cases hi : skIn p R (t : Int) = true
    · rw [if_pos hi, if_pos hi, List.length_drop]
      have hi2 : (p - (R.length : Int)) ≤ (t : Int) ∧ (t : Int) ≤ p := by simpa [skIn, inB] using hi
      omega
    · rw [if_neg hi, if_neg hi]; simp
  have e' : T = t := by omega
  subst e'
  exact ⟨P, R1, ho, h3, h4, h5, h6⟩
set_option maxHeartbeats 8000000 in
theorem walk (A : Option Addr) (n c : Nat) (w : World) (h : BytesIn w w.heap.size A n) (hnc : n ≤ c) (hm : n ≤ 9223372036854775807) :
    Calls Try.prog 7 #[.slice A n c] w (BoolB true w) := by
  have HBY := Lib.hid h
  clear h
  have EB := Lib.hid (Below.refl w.heap.size w)
  by_cases hbig : (1048576 : Int) < (n : Int)
  · go_enter Try.func7, Try.ntmps7
    go_wp2
    go_ret
    exact ⟨rfl, Below.refl _ _⟩
  go_enter Try.func7, Try.ntmps7
  go_wp2_with fail
  refine (DrawReadFull_any HBY.out (by omega) hnc).mono ?_
  rintro e w1 ⟨Ad, nd, cd, Ad', nd', cd', Ed, md, kd, Dd, Sd, Rd, pd, qd, yd, zn, rfl, ⟨⟨hcd, hcd', hkd⟩, ⟨hnd, hnd', hmd⟩, hpd, hqd, hyd, hb, hd, hd', hr⟩, hzn⟩
  (try simp only [World.size_alloc, World.size_setCell, World.size_drew] at hb)
  have HB := Lib.hid hb
  clear hb
  have s1 := HB.out.size
  (try simp only [World.size_alloc, World.size_setCell, World.size_drew] at s1)
  replace EB := Lib.hid (below_step HB.out EB.out (by omega))
  clear HB
  clear HBY
  have d1 := Lib.hid hd
  have d2 := Lib.hid hd'
  have d3 := Lib.hid hr
  clear hd hd' hr
  go_wp2_with fail
  replace d1 := Lib.hid (d1.out.alloc (by omega) (.cells #[.slice Ad nd cd, .int .i64 (pd), .slice Ad' nd' cd', .int .i64 (qd), .slice Ed md kd, .int .i64 (yd)] 27))
  replace d2 := Lib.hid (d2.out.alloc (by omega) (.cells #[.slice Ad nd cd, .int .i64 (pd), .slice Ad' nd' cd', .int .i64 (qd), .slice Ed md kd, .int .i64 (yd)] 27))
  replace d3 := Lib.hid (d3.out.alloc (by omega) (.cells #[.slice Ad nd cd, .int .i64 (pd), .slice Ad' nd' cd', .int .i64 (qd), .slice Ed md kd, .int .i64 (yd)] 27))
  replace EB := Lib.hid (EB.out.alloc (by omega) (.cells #[.slice Ad nd cd, .int .i64 (pd), .slice Ad' nd' cd', .int .i64 (qd), .slice Ed md kd, .int .i64 (yd)] 27))
  have Bd := Lib.hid (Box.new w1 27 [.slice Ad nd cd, .int .i64 (pd), .slice Ad' nd' cd', .int .i64 (qd), .slice Ed md kd, .int .i64 (yd)])
  have s2 : w1.heap.size + 1 ≤ (w1.alloc (.cells #[.slice Ad nd cd, .int .i64 (pd), .slice Ad' nd' cd', .int .i64 (qd), .slice Ed md kd, .int .i64 (yd)] 27)).heap.size := by simp
  generalize w1.alloc (.cells #[.slice Ad nd cd, .int .i64 (pd), .slice Ad' nd' cd', .int .i64 (qd), .slice Ed md kd, .int .i64 (yd)] 27) = w2 at *
  cases hg : (goodR Dd pd Sd qd Rd yd && inB zn 0 60)
  · refine (to_rli (ReadFull_x d1.out d2.out d3.out (by omega) (by omega) (by omega) hcd hcd' hkd (by omega) (by omega) (by omega) (by unfold okInt; omega)) (rfull_no hg)).mono ?_
    rintro e w3 ⟨Ax, nx, cx, Ax', nx', cx', Ex, mx, kx, Al, nl, cl, rfl, ⟨hcx, hcx', hkx, hcl⟩, hb, hd, hd', hr, hl⟩
    (try simp only [World.size_alloc, World.size_setCell, World.size_drew] at hb)
    have HB := Lib.hid hb
    clear hb
    have s3 := HB.out.size
    (try simp only [World.size_alloc, World.size_setCell, World.size_drew] at s3)
    replace d1 := Lib.hid (d1.out.below HB.out (by omega))
    replace d2 := Lib.hid (d2.out.below HB.out (by omega))
    replace d3 := Lib.hid (d3.out.below HB.out (by omega))
    replace Bd := Lib.hid (Bd.out.below HB.out (by omega))
    replace EB := Lib.hid (below_step HB.out EB.out (by omega))
    clear HB
    have l1 := Lib.hid hl
    have x1 := Lib.hid hd
    have x2 := Lib.hid hd'
    have x3 := Lib.hid hr
    clear hd hd' hr hl
    have vdl := Bd.out.lt
    have vd0 := (Bd.out.2 0 _ rfl).1
    have vd1 := (Bd.out.2 1 _ rfl).1
    have vd2 := (Bd.out.2 2 _ rfl).1
    have vd3 := (Bd.out.2 3 _ rfl).1
    have vd4 := (Bd.out.2 4 _ rfl).1
    have vd5 := (Bd.out.2 5 _ rfl).1
    go_wp2_with fail
    clear vdl vd0 vd1 vd2 vd3 vd4 vd5
    replace d1 := Lib.hid (d1.out.alloc (by omega) (.cells #[.slice Ax nx cx, .int .i64 (0), .slice Ax' nx' cx', .int .i64 (0), .slice Ex mx kx, .int .i64 (0)] 27))
    replace d2 := Lib.hid (d2.out.alloc (by omega) (.cells #[.slice Ax nx cx, .int .i64 (0), .slice Ax' nx' cx', .int .i64 (0), .slice Ex mx kx, .int .i64 (0)] 27))
    replace d3 := Lib.hid (d3.out.alloc (by omega) (.cells #[.slice Ax nx cx, .int .i64 (0), .slice Ax' nx' cx', .int .i64 (0), .slice Ex mx kx, .int .i64 (0)] 27))
    replace Bd := Lib.hid (Bd.out.alloc (.cells #[.slice Ax nx cx, .int .i64 (0), .slice Ax' nx' cx', .int .i64 (0), .slice Ex mx kx, .int .i64 (0)] 27))
    replace l1 := Lib.hid (l1.out.alloc (by omega) (.cells #[.slice Ax nx cx, .int .i64 (0), .slice Ax' nx' cx', .int .i64 (0), .slice Ex mx kx, .int .i64 (0)] 27))
    replace x1 := Lib.hid (x1.out.alloc (by omega) (.cells #[.slice Ax nx cx, .int .i64 (0), .slice Ax' nx' cx', .int .i64 (0), .slice Ex mx kx, .int .i64 (0)] 27))
    replace x2 := Lib.hid (x2.out.alloc (by omega) (.cells #[.slice Ax nx cx, .int .i64 (0), .slice Ax' nx' cx', .int .i64 (0), .slice Ex mx kx, .int .i64 (0)] 27))
    replace x3 := Lib.hid (x3.out.alloc (by omega) (.cells #[.slice Ax nx cx, .int .i64 (0), .slice Ax' nx' cx', .int .i64 (0), .slice Ex mx kx, .int .i64 (0)] 27))
    replace EB := Lib.hid (EB.out.alloc (by omega) (.cells #[.slice Ax nx cx, .int .i64 (0), .slice Ax' nx' cx', .int .i64 (0), .slice Ex mx kx, .int .i64 (0)] 27))
    have Bx := Lib.hid (Box.new w3 27 [.slice Ax nx cx, .int .i64 (0), .slice Ax' nx' cx', .int .i64 (0), .slice Ex mx kx, .int .i64 (0)])
    have s4 : w3.heap.size + 1 ≤ (w3.alloc (.cells #[.slice Ax nx cx, .int .i64 (0), .slice Ax' nx' cx', .int .i64 (0), .slice Ex mx kx, .int .i64 (0)] 27)).heap.size := by simp
    generalize w3.alloc (.cells #[.slice Ax nx cx, .int .i64 (0), .slice Ax' nx' cx', .int .i64 (0), .slice Ex mx kx, .int .i64 (0)] 27) = w4 at *
    refine (to_rli (SReadFull_x d1.out d2.out d3.out (by omega) (by omega) (by omega) hcd hcd' hkd (by omega) (by omega) (by omega) (by unfold okInt; omega)) (rfull_no hg)).mono ?_
    rintro e w5 ⟨Ay, ny, cy, Ay', ny', cy', Ey, my, ky, Am, nm, cm, rfl, ⟨hcy, hcy', hky, hcm⟩, hb, hd, hd', hr, hl⟩
    (try simp only [World.size_alloc, World.size_setCell, World.size_drew] at hb)
    have HB := Lib.hid hb
    clear hb
    have s5 := HB.out.size
    (try simp only [World.size_alloc, World.size_setCell, World.size_drew] at s5)
    replace d1 := Lib.hid (d1.out.below HB.out (by omega))
    replace d2 := Lib.hid (d2.out.below HB.out (by omega))
    replace d3 := Lib.hid (d3.out.below HB.out (by omega))
    replace Bd := Lib.hid (Bd.out.below HB.out (by omega))
    replace l1 := Lib.hid (l1.out.below HB.out (by omega))
    replace x1 := Lib.hid (x1.out.below HB.out (by omega))
    replace x2 := Lib.hid (x2.out.below HB.out (by omega))
    replace x3 := Lib.hid (x3.out.below HB.out (by omega))
    replace Bx := Lib.hid (Bx.out.below HB.out (by omega))
    replace EB := Lib.hid (below_step HB.out EB.out (by omega))
    clear HB
    have m1 := Lib.hid hl
    have y1 := Lib.hid hd
    have y2 := Lib.hid hd'
    have y3 := Lib.hid hr
    clear hd hd' hr hl
    have vxl := Bx.out.lt
    have vx0 := (Bx.out.2 0 _ rfl).1
    have vx1 := (Bx.out.2 1 _ rfl).1
    have vx2 := (Bx.out.2 2 _ rfl).1
    have vx3 := (Bx.out.2 3 _ rfl).1
    have vx4 := (Bx.out.2 4 _ rfl).1
    have vx5 := (Bx.out.2 5 _ rfl).1
    go_wp2_with fail
    clear vxl vx0 vx1 vx2 vx3 vx4 vx5
    replace d1 := Lib.hid (d1.out.alloc (by omega) (.cells #[.slice Ay ny cy, .int .i64 (0), .slice Ay' ny' cy', .int .i64 (0), .slice Ey my ky, .int .i64 (0)] 27))
    replace d2 := Lib.hid (d2.out.alloc (by omega) (.cells #[.slice Ay ny cy, .int .i64 (0), .slice Ay' ny' cy', .int .i64 (0), .slice Ey my ky, .int .i64 (0)] 27))
    replace d3 := Lib.hid (d3.out.alloc (by omega) (.cells #[.slice Ay ny cy, .int .i64 (0), .slice Ay' ny' cy', .int .i64 (0), .slice Ey my ky, .int .i64 (0)] 27))
    replace Bd := Lib.hid (Bd.out.alloc (.cells #[.slice Ay ny cy, .int .i64 (0), .slice Ay' ny' cy', .int .i64 (0), .slice Ey my ky, .int .i64 (0)] 27))
    replace l1 := Lib.hid (l1.out.alloc (by omega) (.cells #[.slice Ay ny cy, .int .i64 (0), .slice Ay' ny' cy', .int .i64 (0), .slice Ey my ky, .int .i64 (0)] 27))
    replace x1 := Lib.hid (x1.out.alloc (by omega) (.cells #[.slice Ay ny cy, .int .i64 (0), .slice Ay' ny' cy', .int .i64 (0), .slice Ey my ky, .int .i64 (0)] 27))
    replace x2 := Lib.hid (x2.out.alloc (by omega) (.cells #[.slice Ay ny cy, .int .i64 (0), .slice Ay' ny' cy', .int .i64 (0), .slice Ey my ky, .int .i64 (0)] 27))
    replace x3 := Lib.hid (x3.out.alloc (by omega) (.cells #[.slice Ay ny cy, .int .i64 (0), .slice Ay' ny' cy', .int .i64 (0), .slice Ey my ky, .int .i64 (0)] 27))
    replace Bx := Lib.hid (Bx.out.alloc (.cells #[.slice Ay ny cy, .int .i64 (0), .slice Ay' ny' cy', .int .i64 (0), .slice Ey my ky, .int .i64 (0)] 27))
    replace m1 := Lib.hid (m1.out.alloc (by omega) (.cells #[.slice Ay ny cy, .int .i64 (0), .slice Ay' ny' cy', .int .i64 (0), .slice Ey my ky, .int .i64 (0)] 27))
    replace y1 := Lib.hid (y1.out.alloc (by omega) (.cells #[.slice Ay ny cy, .int .i64 (0), .slice Ay' ny' cy', .int .i64 (0), .slice Ey my ky, .int .i64 (0)] 27))
    replace y2 := Lib.hid (y2.out.alloc (by omega) (.cells #[.slice Ay ny cy, .int .i64 (0), .slice Ay' ny' cy', .int .i64 (0), .slice Ey my ky, .int .i64 (0)] 27))
    replace y3 := Lib.hid (y3.out.alloc (by omega) (.cells #[.slice Ay ny cy, .int .i64 (0), .slice Ay' ny' cy', .int .i64 (0), .slice Ey my ky, .int .i64 (0)] 27))
    replace EB := Lib.hid (EB.out.alloc (by omega) (.cells #[.slice Ay ny cy, .int .i64 (0), .slice Ay' ny' cy', .int .i64 (0), .slice Ey my ky, .int .i64 (0)] 27))
    have By := Lib.hid (Box.new w5 27 [.slice Ay ny cy, .int .i64 (0), .slice Ay' ny' cy', .int .i64 (0), .slice Ey my ky, .int .i64 (0)])
    have s6 : w5.heap.size + 1 ≤ (w5.alloc (.cells #[.slice Ay ny cy, .int .i64 (0), .slice Ay' ny' cy', .int .i64 (0), .slice Ey my ky, .int .i64 (0)] 27)).heap.size := by simp
    generalize w5.alloc (.cells #[.slice Ay ny cy, .int .i64 (0), .slice Ay' ny' cy', .int .i64 (0), .slice Ey my ky, .int .i64 (0)] 27) = w6 at *
    refine (equalReader_same x1.out x2.out x3.out y1.out y2.out y3.out (by omega) (by omega) (by omega) (by omega) (by omega) (by omega)).mono ?_
    rintro e w7 ⟨rfl, hb⟩
    (try simp only [World.size_alloc, World.size_setCell, World.size_drew] at hb)
    have HB := Lib.hid hb
    clear hb
    have s7 := HB.out.size
    (try simp only [World.size_alloc, World.size_setCell, World.size_drew] at s7)
    replace d1 := Lib.hid (d1.out.below HB.out (by omega))
    replace d2 := Lib.hid (d2.out.below HB.out (by omega))
    replace d3 := Lib.hid (d3.out.below HB.out (by omega))
    replace Bd := Lib.hid (Bd.out.below HB.out (by omega))
    replace l1 := Lib.hid (l1.out.below HB.out (by omega))
    replace x1 := Lib.hid (x1.out.below HB.out (by omega))
    replace x2 := Lib.hid (x2.out.below HB.out (by omega))
    replace x3 := Lib.hid (x3.out.below HB.out (by omega))
    replace Bx := Lib.hid (Bx.out.below HB.out (by omega))
    replace m1 := Lib.hid (m1.out.below HB.out (by omega))
    replace y1 := Lib.hid (y1.out.below HB.out (by omega))
    replace y2 := Lib.hid (y2.out.below HB.out (by omega))
    replace y3 := Lib.hid (y3.out.below HB.out (by omega))
    replace By := Lib.hid (By.out.below HB.out (by omega))
    replace EB := Lib.hid (below_step HB.out EB.out (by omega))
    clear HB
    go_wp2_with fail
    refine (equalInts_same l1.out m1.out rfl).mono ?_
    rintro e w8 ⟨rfl, hb⟩
    (try simp only [World.size_alloc, World.size_setCell, World.size_drew] at hb)
    have HB := Lib.hid hb
    clear hb
    have s8 := HB.out.size
    (try simp only [World.size_alloc, World.size_setCell, World.size_drew] at s8)
    replace d1 := Lib.hid (d1.out.below HB.out (by omega))
    replace d2 := Lib.hid (d2.out.below HB.out (by omega))
    replace d3 := Lib.hid (d3.out.below HB.out (by omega))
    replace Bd := Lib.hid (Bd.out.below HB.out (by omega))
    replace l1 := Lib.hid (l1.out.below HB.out (by omega))
    replace x1 := Lib.hid (x1.out.below HB.out (by omega))
    replace x2 := Lib.hid (x2.out.below HB.out (by omega))
    replace x3 := Lib.hid (x3.out.below HB.out (by omega))
    replace Bx := Lib.hid (Bx.out.below HB.out (by omega))
    replace m1 := Lib.hid (m1.out.below HB.out (by omega))
    replace y1 := Lib.hid (y1.out.below HB.out (by omega))
    replace y2 := Lib.hid (y2.out.below HB.out (by omega))
    replace y3 := Lib.hid (y3.out.below HB.out (by omega))
    replace By := Lib.hid (By.out.below HB.out (by omega))
    replace EB := Lib.hid (below_step HB.out EB.out (by omega))
    clear HB
    have vxl := Bx.out.lt
    have vx0 := (Bx.out.2 0 _ rfl).1
    have vx1 := (Bx.out.2 1 _ rfl).1
    have vx2 := (Bx.out.2 2 _ rfl).1
    have vx3 := (Bx.out.2 3 _ rfl).1
    have vx4 := (Bx.out.2 4 _ rfl).1
    have vx5 := (Bx.out.2 5 _ rfl).1
    have vyl := By.out.lt
    have vy0 := (By.out.2 0 _ rfl).1
    have vy1 := (By.out.2 1 _ rfl).1
    have vy2 := (By.out.2 2 _ rfl).1
    have vy3 := (By.out.2 3 _ rfl).1
    have vy4 := (By.out.2 4 _ rfl).1
    have vy5 := (By.out.2 5 _ rfl).1
    go_wp2_with fail
    refine (equalReader_same x1.out x2.out x3.out y1.out y2.out y3.out (by omega) (by omega) (by omega) (by omega) (by omega) (by omega)).mono ?_
    clear vxl vx0 vx1 vx2 vx3 vx4 vx5 vyl vy0 vy1 vy2 vy3 vy4 vy5
    rintro e w9 ⟨rfl, hb⟩
    (try simp only [World.size_alloc, World.size_setCell, World.size_drew] at hb)
    have HB := Lib.hid hb
    clear hb
    have s9 := HB.out.size
    (try simp only [World.size_alloc, World.size_setCell, World.size_drew] at s9)
    replace d1 := Lib.hid (d1.out.below HB.out (by omega))
    replace d2 := Lib.hid (d2.out.below HB.out (by omega))
    replace d3 := Lib.hid (d3.out.below HB.out (by omega))
    replace Bd := Lib.hid (Bd.out.below HB.out (by omega))
    replace l1 := Lib.hid (l1.out.below HB.out (by omega))
    replace x1 := Lib.hid (x1.out.below HB.out (by omega))
    replace x2 := Lib.hid (x2.out.below HB.out (by omega))
    replace x3 := Lib.hid (x3.out.below HB.out (by omega))
    replace Bx := Lib.hid (Bx.out.below HB.out (by omega))
    replace m1 := Lib.hid (m1.out.below HB.out (by omega))
    replace y1 := Lib.hid (y1.out.below HB.out (by omega))
    replace y2 := Lib.hid (y2.out.below HB.out (by omega))
    replace y3 := Lib.hid (y3.out.below HB.out (by omega))
    replace By := Lib.hid (By.out.below HB.out (by omega))
    replace EB := Lib.hid (below_step HB.out EB.out (by omega))
    clear HB
    go_wp2_with fail
    refine (equalInts_same l1.out m1.out rfl).mono ?_
    rintro e w10 ⟨rfl, hb⟩
    (try simp only [World.size_alloc, World.size_setCell, World.size_drew] at hb)
    have HB := Lib.hid hb
    clear hb
    have s10 := HB.out.size
    (try simp only [World.size_alloc, World.size_setCell, World.size_drew] at s10)
    replace d1 := Lib.hid (d1.out.below HB.out (by omega))
    replace d2 := Lib.hid (d2.out.below HB.out (by omega))
    replace d3 := Lib.hid (d3.out.below HB.out (by omega))
    replace Bd := Lib.hid (Bd.out.below HB.out (by omega))
    replace l1 := Lib.hid (l1.out.below HB.out (by omega))
    replace x1 := Lib.hid (x1.out.below HB.out (by omega))
    replace x2 := Lib.hid (x2.out.below HB.out (by omega))
    replace x3 := Lib.hid (x3.out.below HB.out (by omega))
    replace Bx := Lib.hid (Bx.out.below HB.out (by omega))
    replace m1 := Lib.hid (m1.out.below HB.out (by omega))
    replace y1 := Lib.hid (y1.out.below HB.out (by omega))
    replace y2 := Lib.hid (y2.out.below HB.out (by omega))
    replace y3 := Lib.hid (y3.out.below HB.out (by omega))
    replace By := Lib.hid (By.out.below HB.out (by omega))
    replace EB := Lib.hid (below_step HB.out EB.out (by omega))
    clear HB
    go_wp2
    go_ret
    exact ⟨rfl, EB.out⟩
  · obtain ⟨t, P, Q, R1, L, st, ho, hs5, htd, had, hvx, htx, hax, hr1, hbe, hln, hst⟩ := rfull_yes hg
    have hz60 : 0 ≤ zn ∧ zn ≤ 60 := by simpa [inB] using (Bool.and_eq_true_iff.1 hg).2
    have hL60 : L.length ≤ 60 := by omega
    obtain ⟨P2, R2, hok, hv2, ht2, ha2, hr2⟩ := rseek_back hvx htx hL60
    clear hg hst hbe hln hax htx hvx
    have HO := Lib.hid ho
    have TD := Lib.hid htd
    have AD := Lib.hid had
    have R1L := Lib.hid hr1
    have L60 := Lib.hid hL60
    have HOK := Lib.hid hok
    have VB := Lib.hid hv2
    have TB := Lib.hid ht2
    have AB := Lib.hid ha2
    have R2L := Lib.hid hr2
    clear ho htd had hr1 hL60 hok hv2 ht2 ha2 hr2
    refine (to_rli (ReadFull_x d1.out d2.out d3.out (by omega) (by omega) (by omega) hcd hcd' hkd (by omega) (by omega) (by omega) (by unfold okInt; omega)) HO.out).mono ?_
    rintro e w3 ⟨Ax, nx, cx, Ax', nx', cx', Ex, mx, kx, Al, nl, cl, rfl, ⟨hcx, hcx', hkx, hcl⟩, hb, hd, hd', hr, hl⟩
    (try simp only [World.size_alloc, World.size_setCell, World.size_drew] at hb)
    have HB := Lib.hid hb
    clear hb
    have s3 := HB.out.size
    (try simp only [World.size_alloc, World.size_setCell, World.size_drew] at s3)
    replace d1 := Lib.hid (d1.out.below HB.out (by omega))
    replace d2 := Lib.hid (d2.out.below HB.out (by omega))
    replace d3 := Lib.hid (d3.out.below HB.out (by omega))
    replace Bd := Lib.hid (Bd.out.below HB.out (by omega))
    replace EB := Lib.hid (below_step HB.out EB.out (by omega))
    clear HB
    have l1 := Lib.hid hl
    have x1 := Lib.hid hd
    have x2 := Lib.hid hd'
    have x3 := Lib.hid hr
    clear hd hd' hr hl
    have vdl := Bd.out.lt
    have vd0 := (Bd.out.2 0 _ rfl).1
    have vd1 := (Bd.out.2 1 _ rfl).1
    have vd2 := (Bd.out.2 2 _ rfl).1
    have vd3 := (Bd.out.2 3 _ rfl).1
    have vd4 := (Bd.out.2 4 _ rfl).1
    have vd5 := (Bd.out.2 5 _ rfl).1
    go_wp2_with fail
    clear vdl vd0 vd1 vd2 vd3 vd4 vd5
    replace d1 := Lib.hid (d1.out.alloc (by omega) (.cells #[.slice Ax nx cx, .int .i64 (P), .slice Ax' nx' cx', .int .i64 (Q), .slice Ex mx kx, .int .i64 (yd)] 27))
    replace d2 := Lib.hid (d2.out.alloc (by omega) (.cells #[.slice Ax nx cx, .int .i64 (P), .slice Ax' nx' cx', .int .i64 (Q), .slice Ex mx kx, .int .i64 (yd)] 27))
    replace d3 := Lib.hid (d3.out.alloc (by omega) (.cells #[.slice Ax nx cx, .int .i64 (P), .slice Ax' nx' cx', .int .i64 (Q), .slice Ex mx kx, .int .i64 (yd)] 27))
    replace Bd := Lib.hid (Bd.out.alloc (.cells #[.slice Ax nx cx, .int .i64 (P), .slice Ax' nx' cx', .int .i64 (Q), .slice Ex mx kx, .int .i64 (yd)] 27))
    replace l1 := Lib.hid (l1.out.alloc (by omega) (.cells #[.slice Ax nx cx, .int .i64 (P), .slice Ax' nx' cx', .int .i64 (Q), .slice Ex mx kx, .int .i64 (yd)] 27))
    replace x1 := Lib.hid (x1.out.alloc (by omega) (.cells #[.slice Ax nx cx, .int .i64 (P), .slice Ax' nx' cx', .int .i64 (Q), .slice Ex mx kx, .int .i64 (yd)] 27))
    replace x2 := Lib.hid (x2.out.alloc (by omega) (.cells #[.slice Ax nx cx, .int .i64 (P), .slice Ax' nx' cx', .int .i64 (Q), .slice Ex mx kx, .int .i64 (yd)] 27))
    replace x3 := Lib.hid (x3.out.alloc (by omega) (.cells #[.slice Ax nx cx, .int .i64 (P), .slice Ax' nx' cx', .int .i64 (Q), .slice Ex mx kx, .int .i64 (yd)] 27))
    replace EB := Lib.hid (EB.out.alloc (by omega) (.cells #[.slice Ax nx cx, .int .i64 (P), .slice Ax' nx' cx', .int .i64 (Q), .slice Ex mx kx, .int .i64 (yd)] 27))
    have Bx := Lib.hid (Box.new w3 27 [.slice Ax nx cx, .int .i64 (P), .slice Ax' nx' cx', .int .i64 (Q), .slice Ex mx kx, .int .i64 (yd)])
    have s4 : w3.heap.size + 1 ≤ (w3.alloc (.cells #[.slice Ax nx cx, .int .i64 (P), .slice Ax' nx' cx', .int .i64 (Q), .slice Ex mx kx, .int .i64 (yd)] 27)).heap.size := by simp
    generalize w3.alloc (.cells #[.slice Ax nx cx, .int .i64 (P), .slice Ax' nx' cx', .int .i64 (Q), .slice Ex mx kx, .int .i64 (yd)] 27) = w4 at *
    refine (to_rli (SReadFull_x d1.out d2.out d3.out (by omega) (by omega) (by omega) hcd hcd' hkd (by omega) (by omega) (by omega) (by unfold okInt; omega)) HO.out).mono ?_
    rintro e w5 ⟨Ay, ny, cy, Ay', ny', cy', Ey, my, ky, Am, nm, cm, rfl, ⟨hcy, hcy', hky, hcm⟩, hb, hd, hd', hr, hl⟩
    (try simp only [World.size_alloc, World.size_setCell, World.size_drew] at hb)
    have HB := Lib.hid hb
    clear hb
    have s5 := HB.out.size
    (try simp only [World.size_alloc, World.size_setCell, World.size_drew] at s5)
    replace d1 := Lib.hid (d1.out.below HB.out (by omega))
    replace d2 := Lib.hid (d2.out.below HB.out (by omega))
    replace d3 := Lib.hid (d3.out.below HB.out (by omega))
    replace Bd := Lib.hid (Bd.out.below HB.out (by omega))
    replace l1 := Lib.hid (l1.out.below HB.out (by omega))
    replace x1 := Lib.hid (x1.out.below HB.out (by omega))
    replace x2 := Lib.hid (x2.out.below HB.out (by omega))
    replace x3 := Lib.hid (x3.out.below HB.out (by omega))
    replace Bx := Lib.hid (Bx.out.below HB.out (by omega))
    replace EB := Lib.hid (below_step HB.out EB.out (by omega))
    clear HB
    have m1 := Lib.hid hl
    have y1 := Lib.hid hd
    have y2 := Lib.hid hd'
    have y3 := Lib.hid hr
    clear hd hd' hr hl
    have vxl := Bx.out.lt
    have vx0 := (Bx.out.2 0 _ rfl).1
    have vx1 := (Bx.out.2 1 _ rfl).1
    have vx2 := (Bx.out.2 2 _ rfl).1
    have vx3 := (Bx.out.2 3 _ rfl).1
    have vx4 := (Bx.out.2 4 _ rfl).1
    have vx5 := (Bx.out.2 5 _ rfl).1
    go_wp2_with fail
    clear vxl vx0 vx1 vx2 vx3 vx4 vx5
    replace d1 := Lib.hid (d1.out.alloc (by omega) (.cells #[.slice Ay ny cy, .int .i64 (P), .slice Ay' ny' cy', .int .i64 (Q), .slice Ey my ky, .int .i64 (yd)] 27))
    replace d2 := Lib.hid (d2.out.alloc (by omega) (.cells #[.slice Ay ny cy, .int .i64 (P), .slice Ay' ny' cy', .int .i64 (Q), .slice Ey my ky, .int .i64 (yd)] 27))
    replace d3 := Lib.hid (d3.out.alloc (by omega) (.cells #[.slice Ay ny cy, .int .i64 (P), .slice Ay' ny' cy', .int .i64 (Q), .slice Ey my ky, .int .i64 (yd)] 27))
    replace Bd := Lib.hid (Bd.out.alloc (.cells #[.slice Ay ny cy, .int .i64 (P), .slice Ay' ny' cy', .int .i64 (Q), .slice Ey my ky, .int .i64 (yd)] 27))
    replace l1 := Lib.hid (l1.out.alloc (by omega) (.cells #[.slice Ay ny cy, .int .i64 (P), .slice Ay' ny' cy', .int .i64 (Q), .slice Ey my ky, .int .i64 (yd)] 27))
    replace x1 := Lib.hid (x1.out.alloc (by omega) (.cells #[.slice Ay ny cy, .int .i64 (P), .slice Ay' ny' cy', .int .i64 (Q), .slice Ey my ky, .int .i64 (yd)] 27))
    replace x2 := Lib.hid (x2.out.alloc (by omega) (.cells #[.slice Ay ny cy, .int .i64 (P), .slice Ay' ny' cy', .int .i64 (Q), .slice Ey my ky, .int .i64 (yd)] 27))
    replace x3 := Lib.hid (x3.out.alloc (by omega) (.cells #[.slice Ay ny cy, .int .i64 (P), .slice Ay' ny' cy', .int .i64 (Q), .slice Ey my ky, .int .i64 (yd)] 27))
    replace Bx := Lib.hid (Bx.out.alloc (.cells #[.slice Ay ny cy, .int .i64 (P), .slice Ay' ny' cy', .int .i64 (Q), .slice Ey my ky, .int .i64 (yd)] 27))
    replace m1 := Lib.hid (m1.out.alloc (by omega) (.cells #[.slice Ay ny cy, .int .i64 (P), .slice Ay' ny' cy', .int .i64 (Q), .slice Ey my ky, .int .i64 (yd)] 27))
    replace y1 := Lib.hid (y1.out.alloc (by omega) (.cells #[.slice Ay ny cy, .int .i64 (P), .slice Ay' ny' cy', .int .i64 (Q), .slice Ey my ky, .int .i64 (yd)] 27))
    replace y2 := Lib.hid (y2.out.alloc (by omega) (.cells #[.slice Ay ny cy, .int .i64 (P), .slice Ay' ny' cy', .int .i64 (Q), .slice Ey my ky, .int .i64 (yd)] 27))
    replace y3 := Lib.hid (y3.out.alloc (by omega) (.cells #[.slice Ay ny cy, .int .i64 (P), .slice Ay' ny' cy', .int .i64 (Q), .slice Ey my ky, .int .i64 (yd)] 27))
    replace EB := Lib.hid (EB.out.alloc (by omega) (.cells #[.slice Ay ny cy, .int .i64 (P), .slice Ay' ny' cy', .int .i64 (Q), .slice Ey my ky, .int .i64 (yd)] 27))
    have By := Lib.hid (Box.new w5 27 [.slice Ay ny cy, .int .i64 (P), .slice Ay' ny' cy', .int .i64 (Q), .slice Ey my ky, .int .i64 (yd)])
    have s6 : w5.heap.size + 1 ≤ (w5.alloc (.cells #[.slice Ay ny cy, .int .i64 (P), .slice Ay' ny' cy', .int .i64 (Q), .slice Ey my ky, .int .i64 (yd)] 27)).heap.size := by simp
    generalize w5.alloc (.cells #[.slice Ay ny cy, .int .i64 (P), .slice Ay' ny' cy', .int .i64 (Q), .slice Ey my ky, .int .i64 (yd)] 27) = w6 at *
    refine (equalReader_same x1.out x2.out x3.out y1.out y2.out y3.out (by omega) (by omega) (by omega) (by omega) (by omega) (by omega)).mono ?_
    rintro e w7 ⟨rfl, hb⟩
    (try simp only [World.size_alloc, World.size_setCell, World.size_drew] at hb)
    have HB := Lib.hid hb
    clear hb
    have s7 := HB.out.size
    (try simp only [World.size_alloc, World.size_setCell, World.size_drew] at s7)
    replace d1 := Lib.hid (d1.out.below HB.out (by omega))
    replace d2 := Lib.hid (d2.out.below HB.out (by omega))
    replace d3 := Lib.hid (d3.out.below HB.out (by omega))
    replace Bd := Lib.hid (Bd.out.below HB.out (by omega))
    replace l1 := Lib.hid (l1.out.below HB.out (by omega))
    replace x1 := Lib.hid (x1.out.below HB.out (by omega))
    replace x2 := Lib.hid (x2.out.below HB.out (by omega))
    replace x3 := Lib.hid (x3.out.below HB.out (by omega))
    replace Bx := Lib.hid (Bx.out.below HB.out (by omega))
    replace m1 := Lib.hid (m1.out.below HB.out (by omega))
    replace y1 := Lib.hid (y1.out.below HB.out (by omega))
    replace y2 := Lib.hid (y2.out.below HB.out (by omega))
    replace y3 := Lib.hid (y3.out.below HB.out (by omega))
    replace By := Lib.hid (By.out.below HB.out (by omega))
    replace EB := Lib.hid (below_step HB.out EB.out (by omega))
    clear HB
    go_wp2_with fail
    refine (equalInts_same l1.out m1.out rfl).mono ?_
    rintro e w8 ⟨rfl, hb⟩
    (try simp only [World.size_alloc, World.size_setCell, World.size_drew] at hb)
    have HB := Lib.hid hb
    clear hb
    have s8 := HB.out.size
    (try simp only [World.size_alloc, World.size_setCell, World.size_drew] at s8)
    replace d1 := Lib.hid (d1.out.below HB.out (by omega))
    replace d2 := Lib.hid (d2.out.below HB.out (by omega))
    replace d3 := Lib.hid (d3.out.below HB.out (by omega))
    replace Bd := Lib.hid (Bd.out.below HB.out (by omega))
    replace l1 := Lib.hid (l1.out.below HB.out (by omega))
    replace x1 := Lib.hid (x1.out.below HB.out (by omega))
    replace x2 := Lib.hid (x2.out.below HB.out (by omega))
    replace x3 := Lib.hid (x3.out.below HB.out (by omega))
    replace Bx := Lib.hid (Bx.out.below HB.out (by omega))
    replace m1 := Lib.hid (m1.out.below HB.out (by omega))
    replace y1 := Lib.hid (y1.out.below HB.out (by omega))
    replace y2 := Lib.hid (y2.out.below HB.out (by omega))
    replace y3 := Lib.hid (y3.out.below HB.out (by omega))
    replace By := Lib.hid (By.out.below HB.out (by omega))
    replace EB := Lib.hid (below_step HB.out EB.out (by omega))
    clear HB
    have hmx : mx ≤ 16 := by rw [x3.out.len]; exact R1L.out
    have hnl : nl ≤ 60 := by rw [l1.out.len]; exact L60.out
    have hwm : IntKind.i64.wrap (-(nl : Int)) = -(nl : Int) := IntWalk.i64_in _ (by omega)
    have hnx : nx ≤ 61 := by have h1 := x1.out.len; have h2 := d1.out.len; omega
    have hnx' : nx' ≤ 61 := by have h1 := x2.out.len; have h2 := d2.out.len; omega
    have hok : seekROut Dd P Sd Q R1 yd (-(nl : Int)) 1 = (⟨Dd, P2, Sd, Q, R2, yd⟩, true) := by rw [l1.out.len]; exact HOK.out
    have HOK2 := Lib.hid hok
    clear hok
    have vxl := Bx.out.lt
    have vx0 := (Bx.out.2 0 _ rfl).1
    have vx1 := (Bx.out.2 1 _ rfl).1
    have vx2 := (Bx.out.2 2 _ rfl).1
    have vx3 := (Bx.out.2 3 _ rfl).1
    have vx4 := (Bx.out.2 4 _ rfl).1
    have vx5 := (Bx.out.2 5 _ rfl).1
    go_wp2_with fail
    refine (to_rbR (SeekReader_x x1.out x2.out x3.out (by omega) (by omega) (by omega) hcx hcx' hkx (by omega) (by omega) (by omega) (by unfold okInt; omega) (by unfold okInt; omega)) HOK2.out).mono ?_
    clear vxl vx0 vx1 vx2 vx3 vx4 vx5
    rintro e w9 ⟨Ab, nb, cb, Ab', nb', cb', Eb, mb, kb, rfl, ⟨hcb, hcb', hkb⟩, hb, hd, hd', hr⟩
    (try simp only [World.size_alloc, World.size_setCell, World.size_drew] at hb)
    have HB := Lib.hid hb
    clear hb
    have s9 := HB.out.size
    (try simp only [World.size_alloc, World.size_setCell, World.size_drew] at s9)
    replace d1 := Lib.hid (d1.out.below HB.out (by omega))
    replace d2 := Lib.hid (d2.out.below HB.out (by omega))
    replace d3 := Lib.hid (d3.out.below HB.out (by omega))
    replace Bd := Lib.hid (Bd.out.below HB.out (by omega))
    replace l1 := Lib.hid (l1.out.below HB.out (by omega))
    replace x1 := Lib.hid (x1.out.below HB.out (by omega))
    replace x2 := Lib.hid (x2.out.below HB.out (by omega))
    replace x3 := Lib.hid (x3.out.below HB.out (by omega))
    replace Bx := Lib.hid (Bx.out.below HB.out (by omega))
    replace m1 := Lib.hid (m1.out.below HB.out (by omega))
    replace y1 := Lib.hid (y1.out.below HB.out (by omega))
    replace y2 := Lib.hid (y2.out.below HB.out (by omega))
    replace y3 := Lib.hid (y3.out.below HB.out (by omega))
    replace By := Lib.hid (By.out.below HB.out (by omega))
    replace EB := Lib.hid (below_step HB.out EB.out (by omega))
    clear HB
    have b1 := Lib.hid hd
    have b2 := Lib.hid hd'
    have b3 := Lib.hid hr
    clear hd hd' hr
    go_wp2_with fail
    replace d1 := Lib.hid (d1.out.alloc (by omega) (.cells #[.slice Ab nb cb, .int .i64 (P2), .slice Ab' nb' cb', .int .i64 (Q), .slice Eb mb kb, .int .i64 (yd)] 27))
    replace d2 := Lib.hid (d2.out.alloc (by omega) (.cells #[.slice Ab nb cb, .int .i64 (P2), .slice Ab' nb' cb', .int .i64 (Q), .slice Eb mb kb, .int .i64 (yd)] 27))
    replace d3 := Lib.hid (d3.out.alloc (by omega) (.cells #[.slice Ab nb cb, .int .i64 (P2), .slice Ab' nb' cb', .int .i64 (Q), .slice Eb mb kb, .int .i64 (yd)] 27))
    replace Bd := Lib.hid (Bd.out.alloc (.cells #[.slice Ab nb cb, .int .i64 (P2), .slice Ab' nb' cb', .int .i64 (Q), .slice Eb mb kb, .int .i64 (yd)] 27))
    replace l1 := Lib.hid (l1.out.alloc (by omega) (.cells #[.slice Ab nb cb, .int .i64 (P2), .slice Ab' nb' cb', .int .i64 (Q), .slice Eb mb kb, .int .i64 (yd)] 27))
    replace x1 := Lib.hid (x1.out.alloc (by omega) (.cells #[.slice Ab nb cb, .int .i64 (P2), .slice Ab' nb' cb', .int .i64 (Q), .slice Eb mb kb, .int .i64 (yd)] 27))
    replace x2 := Lib.hid (x2.out.alloc (by omega) (.cells #[.slice Ab nb cb, .int .i64 (P2), .slice Ab' nb' cb', .int .i64 (Q), .slice Eb mb kb, .int .i64 (yd)] 27))
    replace x3 := Lib.hid (x3.out.alloc (by omega) (.cells #[.slice Ab nb cb, .int .i64 (P2), .slice Ab' nb' cb', .int .i64 (Q), .slice Eb mb kb, .int .i64 (yd)] 27))
    replace Bx := Lib.hid (Bx.out.alloc (.cells #[.slice Ab nb cb, .int .i64 (P2), .slice Ab' nb' cb', .int .i64 (Q), .slice Eb mb kb, .int .i64 (yd)] 27))
    replace m1 := Lib.hid (m1.out.alloc (by omega) (.cells #[.slice Ab nb cb, .int .i64 (P2), .slice Ab' nb' cb', .int .i64 (Q), .slice Eb mb kb, .int .i64 (yd)] 27))
    replace y1 := Lib.hid (y1.out.alloc (by omega) (.cells #[.slice Ab nb cb, .int .i64 (P2), .slice Ab' nb' cb', .int .i64 (Q), .slice Eb mb kb, .int .i64 (yd)] 27))
    replace y2 := Lib.hid (y2.out.alloc (by omega) (.cells #[.slice Ab nb cb, .int .i64 (P2), .slice Ab' nb' cb', .int .i64 (Q), .slice Eb mb kb, .int .i64 (yd)] 27))
    replace y3 := Lib.hid (y3.out.alloc (by omega) (.cells #[.slice Ab nb cb, .int .i64 (P2), .slice Ab' nb' cb', .int .i64 (Q), .slice Eb mb kb, .int .i64 (yd)] 27))
    replace By := Lib.hid (By.out.alloc (.cells #[.slice Ab nb cb, .int .i64 (P2), .slice Ab' nb' cb', .int .i64 (Q), .slice Eb mb kb, .int .i64 (yd)] 27))
    replace b1 := Lib.hid (b1.out.alloc (by omega) (.cells #[.slice Ab nb cb, .int .i64 (P2), .slice Ab' nb' cb', .int .i64 (Q), .slice Eb mb kb, .int .i64 (yd)] 27))
    replace b2 := Lib.hid (b2.out.alloc (by omega) (.cells #[.slice Ab nb cb, .int .i64 (P2), .slice Ab' nb' cb', .int .i64 (Q), .slice Eb mb kb, .int .i64 (yd)] 27))
    replace b3 := Lib.hid (b3.out.alloc (by omega) (.cells #[.slice Ab nb cb, .int .i64 (P2), .slice Ab' nb' cb', .int .i64 (Q), .slice Eb mb kb, .int .i64 (yd)] 27))
    replace EB := Lib.hid (EB.out.alloc (by omega) (.cells #[.slice Ab nb cb, .int .i64 (P2), .slice Ab' nb' cb', .int .i64 (Q), .slice Eb mb kb, .int .i64 (yd)] 27))
    have Bb := Lib.hid (Box.new w9 27 [.slice Ab nb cb, .int .i64 (P2), .slice Ab' nb' cb', .int .i64 (Q), .slice Eb mb kb, .int .i64 (yd)])
    have s10 : w9.heap.size + 1 ≤ (w9.alloc (.cells #[.slice Ab nb cb, .int .i64 (P2), .slice Ab' nb' cb', .int .i64 (Q), .slice Eb mb kb, .int .i64 (yd)] 27)).heap.size := by simp
    generalize w9.alloc (.cells #[.slice Ab nb cb, .int .i64 (P2), .slice Ab' nb' cb', .int .i64 (Q), .slice Eb mb kb, .int .i64 (yd)] 27) = w10 at *
    have hmb : mb ≤ 16 := by rw [b3.out.len]; exact R2L.out
    have vbl := Bb.out.lt
    have vb0 := (Bb.out.2 0 _ rfl).1
    have vb1 := (Bb.out.2 1 _ rfl).1
    have vb2 := (Bb.out.2 2 _ rfl).1
    have vb3 := (Bb.out.2 3 _ rfl).1
    have vb4 := (Bb.out.2 4 _ rfl).1
    have vb5 := (Bb.out.2 5 _ rfl).1
    have vdl := Bd.out.lt
    have vd0 := (Bd.out.2 0 _ rfl).1
    have vd1 := (Bd.out.2 1 _ rfl).1
    have vd2 := (Bd.out.2 2 _ rfl).1
    have vd3 := (Bd.out.2 3 _ rfl).1
    have vd4 := (Bd.out.2 4 _ rfl).1
    have vd5 := (Bd.out.2 5 _ rfl).1
    go_wp2_with fail
    go_region_held3 (fun w' => (w'.cell? ⟨w9.heap.size, 0, none⟩ = some (.slice Ab nb cb) ∧ w'.cell? ⟨w9.heap.size, 1, none⟩ = some (.int .i64 (P2)) ∧ w'.cell? ⟨w9.heap.size, 2, none⟩ = some (.slice Ab' nb' cb') ∧ w'.cell? ⟨w9.heap.size, 3, none⟩ = some (.int .i64 (Q)) ∧ w'.cell? ⟨w9.heap.size, 4, none⟩ = some (.slice Eb mb kb) ∧ w'.cell? ⟨w9.heap.size, 5, none⟩ = some (.int .i64 (yd))) ∧ (w'.cell? ⟨w1.heap.size, 0, none⟩ = some (.slice Ad nd cd) ∧ w'.cell? ⟨w1.heap.size, 1, none⟩ = some (.int .i64 (pd)) ∧ w'.cell? ⟨w1.heap.size, 2, none⟩ = some (.slice Ad' nd' cd') ∧ w'.cell? ⟨w1.heap.size, 3, none⟩ = some (.int .i64 (qd)) ∧ w'.cell? ⟨w1.heap.size, 4, none⟩ = some (.slice Ed md kd) ∧ w'.cell? ⟨w1.heap.size, 5, none⟩ = some (.int .i64 (yd)))) (go_keep)
      (first | (go_at_call 15; (with_reducible refine (to_listN (ahead_any b1.out.drew b2.out.drew b3.out.drew (by first | omega | (simp; omega) | (simp; done)) (by first | omega | (simp; omega) | (simp; done)) (by first | omega | (simp; omega) | (simp; done)) hcb (by first | omega | (simp; omega) | (simp; done))) AB.out).mono ?_); rintro e wg10 ⟨As, ns, cs, rfl, hcs, hb, hl⟩; (try simp only [World.size_alloc, World.size_setCell, World.size_drew] at hb hl); have HRg10 := Lib.hid hb; have srg10 := hb.size; (try simp only [World.size_alloc, World.size_setCell, World.size_drew] at srg10); have Ybg10 := Lib.hid (Bb.out.drew.below hb (by omega)); have Ydg10 := Lib.hid (Bd.out.drew.below hb (by omega)); have s1 := Lib.hid hl; clear hb hl; have vb0 := (Ybg10.out.2 0 _ rfl).1; have vb1 := (Ybg10.out.2 1 _ rfl).1; have vb2 := (Ybg10.out.2 2 _ rfl).1; have vb3 := (Ybg10.out.2 3 _ rfl).1; have vb4 := (Ybg10.out.2 4 _ rfl).1; have vb5 := (Ybg10.out.2 5 _ rfl).1; have vd0 := (Ydg10.out.2 0 _ rfl).1; have vd1 := (Ydg10.out.2 1 _ rfl).1; have vd2 := (Ydg10.out.2 2 _ rfl).1; have vd3 := (Ydg10.out.2 3 _ rfl).1; have vd4 := (Ydg10.out.2 4 _ rfl).1; have vd5 := (Ydg10.out.2 5 _ rfl).1) | (go_at_call 15; (with_reducible refine (to_listN (ahead_any (d1.out.drew.below HRg10.out (by first | omega | (simp; omega) | (simp; done))) (d2.out.drew.below HRg10.out (by first | omega | (simp; omega) | (simp; done))) (d3.out.drew.below HRg10.out (by first | omega | (simp; omega) | (simp; done))) (by first | omega | (simp; omega) | (simp; done)) (by first | omega | (simp; omega) | (simp; done)) (by first | omega | (simp; omega) | (simp; done)) hcd (by first | omega | (simp; omega) | (simp; done))) AD.out).mono ?_); rintro e wg11 ⟨Au, nu, cu, rfl, hcu, hb, hl⟩; (try simp only [World.size_alloc, World.size_setCell, World.size_drew] at hb hl); have HRg11 := Lib.hid hb; have srg11 := hb.size; (try simp only [World.size_alloc, World.size_setCell, World.size_drew] at srg11); have Ybg11 := Lib.hid (Ybg10.out.below hb (by omega)); have Ydg11 := Lib.hid (Ydg10.out.below hb (by omega)); have u1 := Lib.hid hl; clear hb hl; have vb0 := (Ybg11.out.2 0 _ rfl).1; have vb1 := (Ybg11.out.2 1 _ rfl).1; have vb2 := (Ybg11.out.2 2 _ rfl).1; have vb3 := (Ybg11.out.2 3 _ rfl).1; have vb4 := (Ybg11.out.2 4 _ rfl).1; have vb5 := (Ybg11.out.2 5 _ rfl).1; have vd0 := (Ydg11.out.2 0 _ rfl).1; have vd1 := (Ydg11.out.2 1 _ rfl).1; have vd2 := (Ydg11.out.2 2 _ rfl).1; have vd3 := (Ydg11.out.2 3 _ rfl).1; have vd4 := (Ydg11.out.2 4 _ rfl).1; have vd5 := (Ydg11.out.2 5 _ rfl).1) | (go_at_call 13; (with_reducible refine (equalInts_same (s1.out.below HRg11.out (by first | omega | (simp; omega) | (simp; done))) u1.out rfl).mono ?_); rintro e wg12 ⟨rfl, hb⟩; (try simp only [World.size_alloc, World.size_setCell, World.size_drew] at hb); have HRg12 := Lib.hid hb; have srg12 := hb.size; (try simp only [World.size_alloc, World.size_setCell, World.size_drew] at srg12); have Ybg12 := Lib.hid (Ybg11.out.below hb (by omega)); have Ydg12 := Lib.hid (Ydg11.out.below hb (by omega)); clear hb; have vb0 := (Ybg12.out.2 0 _ rfl).1; have vb1 := (Ybg12.out.2 1 _ rfl).1; have vb2 := (Ybg12.out.2 2 _ rfl).1; have vb3 := (Ybg12.out.2 3 _ rfl).1; have vb4 := (Ybg12.out.2 4 _ rfl).1; have vb5 := (Ybg12.out.2 5 _ rfl).1; have vd0 := (Ydg12.out.2 0 _ rfl).1; have vd1 := (Ydg12.out.2 1 _ rfl).1; have vd2 := (Ydg12.out.2 2 _ rfl).1; have vd3 := (Ydg12.out.2 3 _ rfl).1; have vd4 := (Ydg12.out.2 4 _ rfl).1; have vd5 := (Ydg12.out.2 5 _ rfl).1) | (go_at_call 28; (with_reducible refine (to_intN (TellReader_x (((b1.out.drew.below HRg10.out (by first | omega | (simp; omega) | (simp; done))).below HRg11.out (by first | omega | (simp; omega) | (simp; done))).below HRg12.out (by first | omega | (simp; omega) | (simp; done))) (((b2.out.drew.below HRg10.out (by first | omega | (simp; omega) | (simp; done))).below HRg11.out (by first | omega | (simp; omega) | (simp; done))).below HRg12.out (by first | omega | (simp; omega) | (simp; done))) (((b3.out.drew.below HRg10.out (by first | omega | (simp; omega) | (simp; done))).below HRg11.out (by first | omega | (simp; omega) | (simp; done))).below HRg12.out (by first | omega | (simp; omega) | (simp; done))) (by first | omega | (simp; omega) | (simp; done)) (by first | omega | (simp; omega) | (simp; done)) (by first | omega | (simp; omega) | (simp; done)) hcb) TB.out).mono ?_); rintro e wg13 ⟨rfl, hb⟩; (try simp only [World.size_alloc, World.size_setCell, World.size_drew] at hb); have HRg13 := Lib.hid hb; have srg13 := hb.size; (try simp only [World.size_alloc, World.size_setCell, World.size_drew] at srg13); have Ybg13 := Lib.hid (Ybg12.out.below hb (by omega)); have Ydg13 := Lib.hid (Ydg12.out.below hb (by omega)); clear hb; have vb0 := (Ybg13.out.2 0 _ rfl).1; have vb1 := (Ybg13.out.2 1 _ rfl).1; have vb2 := (Ybg13.out.2 2 _ rfl).1; have vb3 := (Ybg13.out.2 3 _ rfl).1; have vb4 := (Ybg13.out.2 4 _ rfl).1; have vb5 := (Ybg13.out.2 5 _ rfl).1; have vd0 := (Ydg13.out.2 0 _ rfl).1; have vd1 := (Ydg13.out.2 1 _ rfl).1; have vd2 := (Ydg13.out.2 2 _ rfl).1; have vd3 := (Ydg13.out.2 3 _ rfl).1; have vd4 := (Ydg13.out.2 4 _ rfl).1; have vd5 := (Ydg13.out.2 5 _ rfl).1) | (go_at_call 28; (with_reducible refine (to_intN (TellReader_x ((((d1.out.drew.below HRg10.out (by first | omega | (simp; omega) | (simp; done))).below HRg11.out (by first | omega | (simp; omega) | (simp; done))).below HRg12.out (by first | omega | (simp; omega) | (simp; done))).below HRg13.out (by first | omega | (simp; omega) | (simp; done))) ((((d2.out.drew.below HRg10.out (by first | omega | (simp; omega) | (simp; done))).below HRg11.out (by first | omega | (simp; omega) | (simp; done))).below HRg12.out (by first | omega | (simp; omega) | (simp; done))).below HRg13.out (by first | omega | (simp; omega) | (simp; done))) ((((d3.out.drew.below HRg10.out (by first | omega | (simp; omega) | (simp; done))).below HRg11.out (by first | omega | (simp; omega) | (simp; done))).below HRg12.out (by first | omega | (simp; omega) | (simp; done))).below HRg13.out (by first | omega | (simp; omega) | (simp; done))) (by first | omega | (simp; omega) | (simp; done)) (by first | omega | (simp; omega) | (simp; done)) (by first | omega | (simp; omega) | (simp; done)) hcd) TD.out).mono ?_); rintro e wg14 ⟨rfl, hb⟩; (try simp only [World.size_alloc, World.size_setCell, World.size_drew] at hb); have HRg14 := Lib.hid hb; have srg14 := hb.size; (try simp only [World.size_alloc, World.size_setCell, World.size_drew] at srg14); have Ybg14 := Lib.hid (Ybg13.out.below hb (by omega)); have Ydg14 := Lib.hid (Ydg13.out.below hb (by omega)); clear hb; have vb0 := (Ybg14.out.2 0 _ rfl).1; have vb1 := (Ybg14.out.2 1 _ rfl).1; have vb2 := (Ybg14.out.2 2 _ rfl).1; have vb3 := (Ybg14.out.2 3 _ rfl).1; have vb4 := (Ybg14.out.2 4 _ rfl).1; have vb5 := (Ybg14.out.2 5 _ rfl).1; have vd0 := (Ydg14.out.2 0 _ rfl).1; have vd1 := (Ydg14.out.2 1 _ rfl).1; have vd2 := (Ydg14.out.2 2 _ rfl).1; have vd3 := (Ydg14.out.2 3 _ rfl).1; have vd4 := (Ydg14.out.2 4 _ rfl).1; have vd5 := (Ydg14.out.2 5 _ rfl).1) | fail)
    go_wp2
    go_ret
    exact ⟨rfl, (below_step HRg14.out (below_step HRg13.out (below_step HRg12.out (below_step HRg11.out (below_step HRg10.out EB.out.drew (by first | omega | (simp; omega) | (simp; done))) (by first | omega | (simp; omega) | (simp; done))) (by first | omega | (simp; omega) | (simp; done))) (by first | omega | (simp; omega) | (simp; done))) (by first | omega | (simp; omega) | (simp; done)))⟩

theorem contract (H : Type) (enc : TypeId × Value → H) (W : World) (base : Nat) (args : Array Value) (ds gs : List (DataW H)) (before : List MemPlace)
    (hval : ∀ (j : Nat) t v, Try.f7.params[j]? = some t → args[j]? = some v → Value.okWide Try.prog W .any base t v)
    (hW : DataW.Whole enc Try.prog Try.f7.params.toList Rows.fnSeekReaderBackSpec.vars false W args.toList ds gs before) :
    Calls Try.prog 7 args W fun e W' => ∃ v, e = .returned v ∧ Rows.fnSeekReaderBackSpec.post enc Try.prog Try.f7 false true false false W args v W' := by
  have hW' := hW
  have hlt : ∀ p ∈ before, p.block < W.heap.size := fun p hp => hW.lt p hp
  obtain ⟨p, q, hA0, hV, rfl, hfz, hnd⟩ := hW
  have hA : DataW.TrodAll enc Try.prog W 0 (fun _ => true) true Try.f7.params.toList args.toList ds p := hA0
  rw [Try.params7] at hA hval
  obtain ⟨v0, vs0, d0, ds0, p0, q0, hargs, rfl, rfl, h0, r0⟩ := trodAll_cons hA
  obtain ⟨rfl, rfl, rfl⟩ := trodAll_nil r0
  obtain rfl : args = #[v0] := by cases args; simp_all
  obtain ⟨rfl, rfl⟩ := trodVars_none hV
  obtain ⟨A, n, c, rfl, hnc, hby, hmx⟩ := arg_bytes (hval 0 _ v0 rfl rfl) h0 (fun p hp => hlt p (by simp [hp]))
  refine (walk A n c W hby hnc hmx).mono fun e W' hh => ?_
  obtain ⟨rfl, hb⟩ := hh
  exact ⟨_, rfl, law_post laidOut (tys_of (by rw [Try.params7]; kernel_rfl)) hW' rfl rfl rfl Try.underlying4 hb⟩

set_option maxRecDepth 100000 in
theorem lifted (os : Os) (started : os.Started) (H : Type) (enc : TypeId × Value → H) :
    ReturnsInHanded {} Try.checked os 7 .any (Rows.fnSeekReaderBackSpec.pre6 enc Try.prog Try.f7 Rows.fnSeekReaderBackRow.domain false) (Rows.fnSeekReaderBackSpec.post enc Try.prog Try.f7 false true false false) := by
  refine returnsInHanded_of_change (C := Try.checked) own started (by kernel_rfl) Try.func7
    (ChangeSpec.witness6 (C := Try.checked) false ⟨#[], #[.slice none 0 0], []⟩ 8 (by kernel_rfl) (by kernel_rfl) (by kernel_rfl) (by kernel_rfl)) ?_
  intro W base args ds gs before hval hW _ _
  exact contract H enc W base args ds gs before hval hW

theorem holds : Rows.FnSeekReaderBackSaid :=
  OpenClaim.holds_of_wide 7 Try.f7 rfl rfl rfl rfl rfl rfl rfl ⟨rfl, rfl, rfl, rfl, rfl⟩ rfl rfl rfl rfl rfl (by kernel_rfl) Try.func7 (by kernel_rfl)
    (of_decide_eq_true (by kernel_rfl)) (by unfold Func.isWrapper; first | (rw [if_pos (by decide +kernel)]; kernel_rfl) | (rw [if_neg (by decide +kernel)]; exact ⟨rfl, rfl⟩))
    (fun os started H enc _ => lifted os started H enc)
end LawSeekReaderBack
end Go.Proofs.Ytmjmplfhedknhaa
