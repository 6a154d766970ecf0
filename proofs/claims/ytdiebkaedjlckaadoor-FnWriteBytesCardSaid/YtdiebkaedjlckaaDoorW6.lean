/- What FlushWriter, SeekWriter and CutWriter give: facts for the promises of writers. -/
import Derived.Test.YtdiebkaedjlckaaDoorW4
import Derived.Test.YtdiebkaedjlckaaDoorC3e
namespace Go.Proofs.YtdiebkaedjlckaaDoor
open Go.ChangeShapes Go.WideShapes Go.ChangeAt Go.RowKit
set_option linter.unusedSimpArgs false
set_option linter.unusedVariables false
/-- A writer of numbers that are named, and an int. -/
theorem to_ri {f : Nat} {args : Array Value} {w : World} {o : Rv × Int} {D S R : List Int} {p q z y : Int} (h : Calls Tryd.prog f args w (Post2I o w)) (e : o = (⟨D, p, S, q, R, z⟩, y)) :
    Calls Tryd.prog f args w (fun e w' => ∃ A n c A' n' c' A2 n2 c2, e = .returned (.tuple #[.agg #[.slice (A) n c, .int .i64 (p), .slice (A') n' c', .int .i64 (q), .slice (A2) n2 c2, .int .i64 (z)], .int .i64 y]) ∧ (n ≤ c ∧ n' ≤ c' ∧ n2 ≤ c2) ∧ Below w.heap.size w w' ∧
      Ints w' w.heap.size w'.heap.size A n D ∧ Ints w' w.heap.size w'.heap.size A' n' S ∧ Ints w' w.heap.size w'.heap.size A2 n2 R) := by
  subst e
  exact h.mono fun e w' hh => by
    obtain ⟨A, n, c, A', n', c', A2, n2, c2, he, hc, hb, ⟨⟨hd, hd', _, _, _⟩, hr, _, _, _⟩⟩ := hh
    exact ⟨A, n, c, A', n', c', A2, n2, c2, he, hc, hb, hd, hd', hr⟩
theorem flush_no {D S R : List Int} {p q z : Int} (h : goodW D p S q R z = false) : flOut D p S q R z = (⟨[], 0, [], 0, [], 0⟩, 5) := by unfold flOut; rw [h]; rfl
/-- What FlushWriter gives. -/
theorem flush_yes {D S R : List Int} {p q z : Int} (h : goodW D p S q R z = true) : ∃ (D1 : List Int) (P Q : Int) (R1 : List Int) (st : Int),
    flOut D p S q R z = (⟨D1, P, S, Q, R1, z⟩, st) ∧ ¬ st = 5 ∧ validW D1 P S Q R1 z = true ∧ seenOut D1 P S Q R1 z = seenOut D p S q R z ∧ tellWOut D1 P S Q R1 z = tellWOut D p S q R z ∧ (st = 0 ↔ R1 = []) ∧ (R1 = [] → D1 = seenOut D p S q R z ∧ P = tellWOut D p S q R z) ∧ R1.length ≤ 16 ∧ D1.length ≤ 60 ∧ S.length ≤ 12 ∧ (0 ≤ P ∧ P ≤ 60) ∧ validW D p S q R z = true := by
  obtain ⟨hvd, hq, hR16, hRb, hz, hq0, _, hS⟩ := goodW_start h
  obtain ⟨hvw, _⟩ := goodW_iff.1 h
  obtain ⟨hv0, _, hRz, _⟩ := validW_iff.1 hvw
  obtain ⟨g1, g2, g3, g4, g5, g6, g7, g8⟩ := fuGo_pot (S := S) R.length D p q.toNat R (q.toNat + R.length + 12) hvd hRb (Nat.le_refl _) (by omega) (by omega) (by omega)
  obtain ⟨k1, k2, k3⟩ := fuGo_seen (S := S) R.length D p q.toNat R hvd hRb (Nat.le_refl _) (by omega)
  have ho : flOut D p S q R z = (wvOf S z (fuGo S R.length D p q.toNat R), (fuGo S R.length D p q.toNat R).st) := by unfold flOut; rw [h]; rfl
  generalize fuGo S R.length D p q.toNat R = T at *
  have hvT : validW T.d T.p S (T.q : Int) T.r z = true := validW_iff.2 ⟨g1, hz, by omega, g2⟩
  refine ⟨T.d, T.p, (T.q : Int), T.r, T.st, ho, by omega, hvT, ?_, ?_, k3, fun e => ?_, by omega, bytesB_le (validD_iff.1 g1).1, hS, (validD_iff.1 g1).2.2.2.1, hvw⟩
  · rw [seen_yes hvT, seen_yes hvw, k1]
  · rw [tellw_yes hvT, tellw_yes hvw, k2]
  · rw [e] at k1 k2
    rw [seen_yes hvw, ← k1, tellw_yes hvw, ← k2]
    simp [wrL_nil]
theorem seekAt_ofW {size now off wh t : Int} (h : seekAt size now off wh = some t) : t = (if wh = 1 then now + off else if wh = 2 then size + off else off) := by
  unfold seekAt at h
  generalize (if wh = 1 then now + off else if wh = 2 then size + off else off) = u at h ⊢
  split at h
  · split at h
    · injection h with h
      exact h.symm
    · cases h
  · cases h
theorem seek_w_no {D S R : List Int} {p q z off wh : Int} (h : (goodW D p S q R z && (inB off (-60) 60 && inB wh 0 2)) = false) : swOut D p S q R z off wh = (⟨[], 0, [], 0, [], 0⟩, 5) := by unfold swOut; rw [h]; rfl
/-- What SeekWriter gives. -/
theorem seek_w_yes {D S R : List Int} {p q z off wh : Int} (h : (goodW D p S q R z && (inB off (-60) 60 && inB wh 0 2)) = true) : ∃ (D1 : List Int) (P Q : Int) (R1 : List Int) (st : Int),
    swOut D p S q R z off wh = (⟨D1, P, S, Q, R1, z⟩, st) ∧ R1.length ≤ 16 ∧ D1.length ≤ 60 ∧ S.length ≤ 12 ∧ (0 ≤ P ∧ P ≤ 60) ∧ validW D p S q R z = true ∧
    (st = 0 → R1 = [] ∧ D1 = seenOut D p S q R z ∧ validW D1 P S Q R1 z = true ∧ tellWOut D1 P S Q R1 z = P ∧ (wh = 1 → P = tellWOut D p S q R z + off)) := by
  have h0 := h
  rw [Bool.and_eq_true] at h
  obtain ⟨hg, _⟩ := h
  obtain ⟨D1, P, Q, R1, st, ho, h5, hv, hse, hte, hst, hnil, hr, hd, hS, hp, hvw⟩ := flush_yes hg
  obtain ⟨hvd, hq, hR16, hRb, hz, hq0, _, _⟩ := goodW_start hg
  have hfl : flOut D p S q R z = (wvOf S z (fuGo S R.length D p q.toNat R), (fuGo S R.length D p q.toNat R).st) := by unfold flOut; rw [hg]; rfl
  have hsw : swOut D p S q R z off wh = (wvOf S z (bsT (fuGo S R.length D p q.toNat R) off wh), bsE (fuGo S R.length D p q.toNat R) off wh) := by unfold swOut; rw [h0]; rfl
  rw [hsw]
  rw [hfl] at ho
  generalize fuGo S R.length D p q.toNat R = T at *
  injection ho with ho hst2
  injection ho with e1 e2 _ e3 e4 _
  subst e1; subst e2; subst e3; subst e4; subst hst2
  by_cases hk : T.st = 0 ∧ seekOk (seekAt T.d.length T.p off wh) = true
  · obtain ⟨k1, k2⟩ := hk
    have hr0 := hst.1 k1
    obtain ⟨n1, n2⟩ := hnil hr0
    have eT : bsT T off wh = { T with p := seekTo (seekAt T.d.length T.p off wh) } := by unfold bsT; rw [if_pos ⟨k1, k2⟩]
    have hsi : 0 ≤ seekTo (seekAt T.d.length T.p off wh) ∧ seekTo (seekAt T.d.length T.p off wh) ≤ 60 := seekTo_in
    have hv2 : validW T.d (seekTo (seekAt T.d.length T.p off wh)) S (T.q : Int) T.r z = true := by
      obtain ⟨a1, a2, a3, a4⟩ := validW_iff.1 hv
      have b := validD_iff.1 a1
      exact validW_iff.2 ⟨validD_iff.2 ⟨b.1, b.2.1, b.2.2.1, hsi, b.2.2.2.2⟩, a2, a3, a4⟩
    refine ⟨T.d, seekTo (seekAt T.d.length T.p off wh), (T.q : Int), T.r, bsE T off wh, by rw [eT]; rfl, hr, hd, hS, hsi, hvw, fun _ => ⟨hr0, n1, hv2, ?_, fun hw => ?_⟩⟩
    · rw [tellw_yes hv2, hr0]; simp
    · subst hw
      obtain ⟨t, ht⟩ := Option.isSome_iff_exists.1 k2
      have e := seekAt_ofW ht
      rw [if_pos rfl] at e
      rw [ht]
      show t = _
      rw [← n2, e]
  · have eT : bsT T off wh = T := by unfold bsT; rw [if_neg hk]
    have eE : ¬ bsE T off wh = 0 := by
      unfold bsE
      by_cases k1 : T.st = 0
      · rw [if_pos k1]
        have k2 : ¬ seekOk (seekAt T.d.length T.p off wh) = true := fun e => hk ⟨k1, e⟩
        rw [if_neg k2]; omega
      · rw [if_neg k1]; exact k1
    exact ⟨T.d, T.p, (T.q : Int), T.r, bsE T off wh, by rw [eT]; rfl, hr, hd, hS, hp, hvw, fun e => absurd e eE⟩
theorem cut_w_no {D S R : List Int} {p q z N : Int} (h : (goodW D p S q R z && inB N 0 60) = false) : ctwOut D p S q R z N = (⟨[], 0, [], 0, [], 0⟩, 5) := by unfold ctwOut; rw [h]; rfl
theorem cutL_pre2 (D : List Int) (m : Nat) : (D.take (min m D.length)).isPrefixOf (cutL D m) = true := by
  rw [List.isPrefixOf_iff_prefix]
  have e : D.take (min m D.length) = D.take m := by rw [List.take_eq_take_iff]; omega
  rw [e]
  exact List.prefix_append _ _
theorem cutL_bytes {D : List Int} {m : Nat} (h : bytesB D = true) (hm : m ≤ 60) : bytesB (cutL D m) = true := by
  have h3 := allB_iff.1 (bytesB_all h)
  unfold bytesB
  rw [Bool.and_eq_true]
  refine ⟨decide_eq_true (by rw [cutL_len]; omega), allB_iff.2 fun x hx => ?_⟩
  unfold cutL at hx
  rcases List.mem_append.1 hx with h | h
  · exact h3 x (List.mem_of_mem_take h)
  · rw [List.eq_of_mem_replicate h]; omega
/-- What CutWriter gives. -/
theorem cut_w_yes {D S R : List Int} {p q z N : Int} (h : (goodW D p S q R z && inB N 0 60) = true) : ∃ (D1 : List Int) (P Q : Int) (R1 : List Int) (st : Int),
    ctwOut D p S q R z N = (⟨D1, P, S, Q, R1, z⟩, st) ∧ ¬ st = 5 ∧ R1.length ≤ 16 ∧ D1.length ≤ 60 ∧ S.length ≤ 12 ∧ (0 ≤ P ∧ P ≤ 60) ∧ validW D p S q R z = true ∧ (0 ≤ N ∧ N ≤ 60) ∧
    (st = 0 → R1 = [] ∧ (D1.length : Int) = N ∧ ((seenOut D p S q R z).take (min N.toNat (seenOut D p S q R z).length)).isPrefixOf D1 = true ∧ tellWOut D1 P S Q R1 z = tellWOut D p S q R z) := by
  have h0 := h
  rw [Bool.and_eq_true] at h
  obtain ⟨hg, hN⟩ := h
  have hN2 : 0 ≤ N ∧ N ≤ 60 := by simpa [inB] using hN
  obtain ⟨D1, P, Q, R1, st, ho, h5, hv, hse, hte, hst, hnil, hr, hd, hS, hp, hvw⟩ := flush_yes hg
  have hfl : flOut D p S q R z = (wvOf S z (fuGo S R.length D p q.toNat R), (fuGo S R.length D p q.toNat R).st) := by unfold flOut; rw [hg]; rfl
  have hsw : ctwOut D p S q R z N = (if (fuGo S R.length D p q.toNat R).st = 0 then (wvOf S z { fuGo S R.length D p q.toNat R with d := cutL (fuGo S R.length D p q.toNat R).d N.toNat }, 0) else (wvOf S z (fuGo S R.length D p q.toNat R), (fuGo S R.length D p q.toNat R).st)) := by unfold ctwOut; rw [h0]; rfl
  rw [hsw]
  rw [hfl] at ho
  generalize fuGo S R.length D p q.toNat R = T at *
  injection ho with ho hst2
  injection ho with e1 e2 _ e3 e4 _
  subst e1; subst e2; subst e3; subst e4; subst hst2
  by_cases k1 : T.st = 0
  · rw [if_pos k1]
    have hr0 := hst.1 k1
    obtain ⟨n1, n2⟩ := hnil hr0
    have hv2 : validW (cutL T.d N.toNat) T.p S (T.q : Int) T.r z = true := by
      obtain ⟨a1, a2, a3, a4⟩ := validW_iff.1 hv
      have b := validD_iff.1 a1
      exact validW_iff.2 ⟨validD_iff.2 ⟨cutL_bytes b.1 (by omega), b.2⟩, a2, a3, a4⟩
    refine ⟨cutL T.d N.toNat, T.p, (T.q : Int), T.r, 0, rfl, by omega, hr, by rw [cutL_len]; omega, hS, hp, hvw, hN2, fun _ => ⟨hr0, by rw [cutL_len]; omega, ?_, ?_⟩⟩
    · rw [← n1]; exact cutL_pre2 _ _
    · rw [tellw_yes hv2, hr0, ← n2]; simp
  · rw [if_neg k1]
    exact ⟨T.d, T.p, (T.q : Int), T.r, T.st, rfl, h5, hr, hd, hS, hp, hvw, hN2, fun e => absurd e k1⟩
end Go.Proofs.YtdiebkaedjlckaaDoor
