/- The model's indexOf, readUntil and ReadUntil. -/
import Derived.Test.YtmjmplfhedknhaaS2g
namespace Go.Proofs.Ytmjmplfhedknhaa
open Go.ChangeShapes Go.WideShapes Go.ChangeAt Go.RowKit
set_option linter.unusedSimpArgs false
set_option linter.unusedVariables false
set_option maxRecDepth 10000

/-! A chunk up to the byte is that many single steps. -/
theorem untilGo_run {D S : List Int} {z p bb : Int} {N a f : Nat} : ∀ (m : Nat) (Q out : List Int), m ≤ Q.length → out.length + m ≤ N → (∀ x ∈ Q.take m, x ≠ bb) → untilGo D S z N bb (f + m) p a Q out = untilGo D S z N bb f p a (Q.drop m) (out ++ Q.take m)
  | 0, Q, out, _, _, _ => by simp
  | m + 1, Q, out, h, hN, hx => by
    cases Q with
    | nil => simp at h
    | cons x Q' =>
      rw [show f + (m + 1) = (f + m) + 1 from by omega]
      conv => lhs; unfold untilGo
      have hne : ¬ (x :: Q') = [] := by simp
      have e1 : flS D S p a (x :: Q') = 0 := by unfold flS; rw [if_neg hne]
      have e2 : flP D S z p a (x :: Q') = p := by unfold flP; rw [if_neg hne]
      have e3 : flA a (x :: Q') = a := by unfold flA; rw [if_neg hne]
      have e4 : flR D S z p a (x :: Q') = x :: Q' := by unfold flR; rw [if_neg hne]
      have hxb : ¬ x = bb := hx x (by simp)
      rw [if_neg (by omega), if_pos e1, e2, e3, e4, if_neg (by simpa using hxb)]
      have ih := untilGo_run (D := D) (S := S) (z := z) (p := p) (bb := bb) (N := N) (a := a) (f := f) m Q' (out ++ [x]) (by simpa using h) (by simp; omega) (fun y hy => hx y (by simp [hy]))
      simpa using ih
theorem untilGo_fill {D S R : List Int} {z p bb : Int} {N a f : Nat} {out : List Int} (hst : flS D S p a R = 0) (hne : 1 ≤ (flR D S z p a R).length) : untilGo D S z N bb (f + 1) p a R out = untilGo D S z N bb (f + 1) (flP D S z p a R) (flA a R) (flR D S z p a R) out ∨ N ≤ out.length := by
  by_cases hN : N ≤ out.length
  · exact .inr hN
  · left
    obtain ⟨Q, hQ⟩ : ∃ Q, flR D S z p a R = Q := ⟨_, rfl⟩
    obtain ⟨p1, hp1⟩ : ∃ p1, flP D S z p a R = p1 := ⟨_, rfl⟩
    obtain ⟨a1, ha1⟩ : ∃ a1, flA a R = a1 := ⟨_, rfl⟩
    rw [hQ] at hne
    have hQn : ¬ Q = [] := by rintro rfl; simp at hne
    have e1 : flS D S p1 a1 Q = 0 := by unfold flS; rw [if_neg hQn]
    have e2 : flP D S z p1 a1 Q = p1 := by unfold flP; rw [if_neg hQn]
    have e3 : flA a1 Q = a1 := by unfold flA; rw [if_neg hQn]
    have e4 : flR D S z p1 a1 Q = Q := by unfold flR; rw [if_neg hQn]
    rw [hQ, hp1, ha1]
    conv => lhs; unfold untilGo
    conv => rhs; unfold untilGo
    rw [if_neg hN, if_neg hN, if_pos hst, if_pos e1, hQ, hp1, ha1, e2, e3, e4]
theorem until_chunk {D S R R1 : List Int} {z p p1 bb : Int} {N a a1 f mm : Nat} {out : List Int} {T : Rs} (hst : flS D S p a R = 0) (hR : flR D S z p a R = R1) (hp : flP D S z p a R = p1) (ha : flA a R = a1) (hm1 : 1 ≤ mm) (hmm : mm ≤ R1.length) (hN : out.length + mm ≤ N) (hall : ∀ x ∈ R1.take mm, x ≠ bb)
    (hg : untilGo D S z N bb (f + mm) p a R out = T) : untilGo D S z N bb f p1 a1 (R1.drop mm) (out ++ R1.take mm) = T := by
  obtain ⟨k, rfl⟩ : ∃ k, mm = k + 1 := ⟨mm - 1, by omega⟩
  rw [show f + (k + 1) = (f + k) + 1 from by omega] at hg
  rcases untilGo_fill (z := z) (bb := bb) (N := N) (f := f + k) (out := out) hst (by rw [hR]; omega) with h | h
  · rw [h, hR, hp, ha, show (f + k) + 1 = f + (k + 1) from by omega, untilGo_run (k + 1) R1 out hmm hN hall] at hg
    exact hg
  · omega
theorem until_hit {D S R R1 : List Int} {z p p1 bb : Int} {N a a1 f i : Nat} {out : List Int} {T : Rs} (hst : flS D S p a R = 0) (hR : flR D S z p a R = R1) (hp : flP D S z p a R = p1) (ha : flA a R = a1) (hi : R1[i]? = some bb) (hN : out.length + (i + 1) ≤ N) (hall : ∀ x ∈ R1.take i, x ≠ bb)
    (hg : untilGo D S z N bb (f + (i + 1)) p a R out = T) : T = ⟨p1, a1, R1.drop (i + 1), out ++ R1.take (i + 1), 0⟩ := by
  have hil : i < R1.length := (List.getElem?_eq_some_iff.1 hi).1
  rw [show f + (i + 1) = (f + i) + 1 from by omega] at hg
  rcases untilGo_fill (z := z) (bb := bb) (N := N) (f := f + i) (out := out) hst (by rw [hR]; omega) with h | h
  · rw [h, hR, hp, ha, show (f + i) + 1 = (f + 1) + i from by omega, untilGo_run i R1 out (by omega) (by omega) hall] at hg
    have hd : R1.drop i = bb :: R1.drop (i + 1) := by
      rw [List.drop_eq_getElem_cons hil]
      have := (List.getElem?_eq_some_iff.1 hi).2
      rw [this]
    have hne : ¬ (bb :: R1.drop (i + 1)) = [] := by simp
    rw [hd] at hg
    unfold untilGo at hg
    have e1 : flS D S p1 a1 (bb :: R1.drop (i + 1)) = 0 := by unfold flS; rw [if_neg hne]
    have e2 : flP D S z p1 a1 (bb :: R1.drop (i + 1)) = p1 := by unfold flP; rw [if_neg hne]
    have e3 : flA a1 (bb :: R1.drop (i + 1)) = a1 := by unfold flA; rw [if_neg hne]
    have e4 : flR D S z p1 a1 (bb :: R1.drop (i + 1)) = bb :: R1.drop (i + 1) := by unfold flR; rw [if_neg hne]
    rw [if_neg (by rw [List.length_append, List.length_take]; omega), if_pos e1, e2, e3, e4, if_pos (by simp)] at hg
    rw [← hg, take_snoc hi]
    simp
  · omega

/-- Where a number stands first in a list, -1 if nowhere. -/
def IdxAt (xs : List Int) (bb r : Int) : Prop := (r = -1 ∧ ∀ x ∈ xs, x ≠ bb) ∨ ∃ i : Nat, r = (i : Int) ∧ xs[i]? = some bb ∧ ∀ x ∈ xs.take i, x ≠ bb
set_option maxHeartbeats 400000 in
theorem indexOf_any {A : Option Addr} {n c : Nat} {xs : List Int} {bb : Int} {w : World} {L B : Nat} (h : Ints w L B A n xs) :
    Calls Try.prog 80 #[.slice A n c, .int .i64 bb] w fun e w' => ∃ r, e = .returned (.int .i64 r) ∧ IdxAt xs bb r ∧ w = w' := by
  have hm := h.max
  have HL := Lib.hid h.len
  go_enter Try.func80, Try.ntmps80
  go_wp2
  go_loop [5] (fun i => ∃ k : Nat, k ≤ n ∧ i = .int .i64 k ∧ ∀ x ∈ xs.take k, x ≠ bb) (fun i => n - (intOf i).toNat)
  case atStart => exact ⟨0, Nat.zero_le _, rfl, fun x hx => (by simp at hx)⟩
  case round =>
    obtain ⟨k, hk, rfl, hall⟩ := hrel
    have HA := Lib.hid hall
    clear hall
    by_cases hlt : k < n
    · obtain ⟨b, o, x, rfl, _, hc, hx⟩ := h.at_ hlt
      by_cases hxb : x = bb
      · subst hxb
        go_wp2
        go_ret
        exact ⟨_, rfl, .inr ⟨k, rfl, hx.out, HA.out⟩, rfl⟩
      · have hxe : (x == bb) = false := by simpa using hxb
        go_wp2
        go_round
        case rel =>
          refine ⟨k + 1, by omega, by go_num, fun y hy => ?_⟩
          rw [take_snoc hx.out] at hy
          rcases List.mem_append.1 hy with h1 | h1
          · exact HA.out y h1
          · simp at h1; subst h1; exact hxb
        case measure => simp [intOf]; omega
    · go_wp2
      go_ret
      have hkl : xs.take k = xs := List.take_of_length_le (by have := HL.out; omega)
      exact ⟨_, rfl, .inl ⟨rfl, by rw [← hkl]; exact HA.out⟩, rfl⟩
set_option maxHeartbeats 4000000 in
theorem sReadUntil0_any {A A' A2 : Option Addr} {n c n' c' n2 c2 a N : Nat} {D S R : List Int} {p z bb : Int} {w : World} {L L' B B' M C : Nat} (h : Ints w L B A n D) (h' : Ints w L' B' A' n' S) (g : Ints w M C A2 n2 R) (hB : B ≤ w.heap.size) (hB' : B' ≤ w.heap.size) (hC : C ≤ w.heap.size)
    (hnc : n ≤ c) (hn2 : n2 ≤ c2) (hv : validD D p S (a : Int) = true) (ha : a ≤ 900) (hz : 1 ≤ z) (hz' : z ≤ 60) (hK : R.length + (D.length - p.toNat) ≤ 60) (hN : N ≤ 61) :
    Calls Try.prog 55 #[.agg #[.slice (A) n c, .int .i64 (p), .slice (A') n' c', .int .i64 ((a : Int)), .slice (A2) n2 c2, .int .i64 (z)], .int .i64 bb, .int .i64 (N : Int)] w (SWorkPost A n c A' n' c' z A2 n2 M C (untilGo D S z N bb 62 p a R []) w) := by
  obtain ⟨T, hT⟩ : ∃ T, untilGo D S z N bb 62 p a R [] = T := ⟨_, rfl⟩
  rw [hT]
  have HT := Lib.hid hT
  have HV := Lib.hid hv
  have G1 : Hid (Ints ((w.alloc (.cells #[.slice (A) n c, .int .i64 (p), .slice (A') n' c', .int .i64 ((a : Int)), .slice (A2) n2 c2, .int .i64 (z)] 27)).alloc (.cells #[.slice none 0 0, .int .i64 0, .slice none 0 0, .int .i64 0, .slice none 0 0, .int .i64 0] 27)) M C A2 n2 R) := (g.alloc hC _).alloc (by first | omega | (simp; omega) | (simp; done)) _
  have X0 : Hid (Box ((w.alloc (.cells #[.slice (A) n c, .int .i64 (p), .slice (A') n' c', .int .i64 ((a : Int)), .slice (A2) n2 c2, .int .i64 (z)] 27)).alloc (.cells #[.slice none 0 0, .int .i64 0, .slice none 0 0, .int .i64 0, .slice none 0 0, .int .i64 0] 27)) w.heap.size [.slice (A) n c, .int .i64 (p), .slice (A') n' c', .int .i64 ((a : Int)), .slice (A2) n2 c2, .int .i64 (z)]) := (Box.new w 27 [.slice (A) n c, .int .i64 (p), .slice (A') n' c', .int .i64 ((a : Int)), .slice (A2) n2 c2, .int .i64 (z)]).alloc _
  have R0 : Hid (Box ((w.alloc (.cells #[.slice (A) n c, .int .i64 (p), .slice (A') n' c', .int .i64 ((a : Int)), .slice (A2) n2 c2, .int .i64 (z)] 27)).alloc (.cells #[.slice none 0 0, .int .i64 0, .slice none 0 0, .int .i64 0, .slice none 0 0, .int .i64 0] 27)) (w.heap.size + 1) [.slice none 0 0, .int .i64 0, .slice none 0 0, .int .i64 0, .slice none 0 0, .int .i64 0]) := by
    have hx := Box.new (w.alloc (.cells #[.slice (A) n c, .int .i64 (p), .slice (A') n' c', .int .i64 ((a : Int)), .slice (A2) n2 c2, .int .i64 (z)] 27)) 27 [.slice none 0 0, .int .i64 0, .slice none 0 0, .int .i64 0, .slice none 0 0, .int .i64 0]
    rw [World.size_alloc] at hx
    exact hx
  have E0 : Hid (Below w.heap.size w ((w.alloc (.cells #[.slice (A) n c, .int .i64 (p), .slice (A') n' c', .int .i64 ((a : Int)), .slice (A2) n2 c2, .int .i64 (z)] 27)).alloc (.cells #[.slice none 0 0, .int .i64 0, .slice none 0 0, .int .i64 0, .slice none 0 0, .int .i64 0] 27))) := (by go_grown : Below w.heap.size w _)
  have s0 : (((w.alloc (.cells #[.slice (A) n c, .int .i64 (p), .slice (A') n' c', .int .i64 ((a : Int)), .slice (A2) n2 c2, .int .i64 (z)] 27)).alloc (.cells #[.slice none 0 0, .int .i64 0, .slice none 0 0, .int .i64 0, .slice none 0 0, .int .i64 0] 27))).heap.size = w.heap.size + 2 := by simp
  have HD := Lib.hid h
  have HS := Lib.hid h'
  clear g hT hv h h'
  go_enter Try.func55, Try.ntmps55
  go_upto_region 1 with (fail)
  refine wp_rename (fun w0 => Hid (Ints w0 M C A2 n2 R) ∧ Hid (Box w0 w.heap.size [.slice (A) n c, .int .i64 (p), .slice (A') n' c', .int .i64 ((a : Int)), .slice (A2) n2 c2, .int .i64 (z)]) ∧ Hid (Box w0 (w.heap.size + 1) [.slice none 0 0, .int .i64 0, .slice none 0 0, .int .i64 0, .slice none 0 0, .int .i64 0]) ∧ Hid (Below w.heap.size w w0) ∧ w0.heap.size = w.heap.size + 2) ⟨G1, X0, R0, E0, s0⟩ ?_
  clear G1 X0 R0 E0 s0
  rintro w0 ⟨G1, X0, R0, E0, s0⟩
  go_wp2
  go_loopw [9] (fun o wr => ∃ (m co : Nat) (Ao : Option Addr) (out : List Int) (p' : Int) (a' : Nat) (R' : List Int) (A5 : Option Addr) (n5 c5 M' C' : Nat), o = .slice Ao m co ∧ m ≤ N ∧ m ≤ 60 ∧ a' ≤ a + m ∧ n5 ≤ c5 ∧ w.heap.size + 2 ≤ wr.heap.size ∧ C' ≤ wr.heap.size ∧ ((A5 = A2 ∧ n5 = n2 ∧ M' = M ∧ C' = C) ∨ w.heap.size + 2 ≤ M') ∧ Hid (OwnI wr (w.heap.size + 2) (.slice Ao m co) m out) ∧ Hid (∀ x ∈ out, okInt x) ∧ Hid (Clear (.slice Ao m co) M' C') ∧ Hid (Below w.heap.size w wr) ∧ Hid (Box wr w.heap.size [.slice (A) n c, .int .i64 (p'), .slice (A') n' c', .int .i64 ((a' : Int)), .slice (A5) n5 c5, .int .i64 (z)]) ∧ Hid (Box wr (w.heap.size + 1) [.slice none 0 0, .int .i64 0, .slice none 0 0, .int .i64 0, .slice none 0 0, .int .i64 0]) ∧ Hid (Ints wr M' C' A5 n5 R') ∧ Hid (validD D p' S (a' : Int) = true) ∧ m + R'.length + (D.length - p'.toNat) ≤ 60 ∧ Hid (untilGo D S z N bb (62 - m) p' a' R' out = T)) (fun o _ => N - lenV o)
  case atStart =>
    refine ⟨0, 0, some ⟨w.heap.size + 2, 0, none⟩, [], p, a, R, A2, n2, c2, M, C, rfl, by omega, by omega, by omega, hn2, by simp; omega, by simp; omega, .inl ⟨rfl, rfl, rfl, rfl⟩, (by have h := OwnI.made w0 (base := w.heap.size + 2) (by omega); rw [s0] at h; exact h), fun x hx => (by cases hx), ?_, E0.out.alloc (by omega) _, X0.out.alloc _, R0.out.alloc _, G1.out.alloc (by omega) _, HV, by omega, HT⟩
    intro k hk
    injection hk with hk
    have hk2 : w.heap.size + 2 = k := hk
    exact .inr (by omega)
  case round =>
    clear G1 X0 R0 E0 s0 HV HT
    obtain ⟨m, co, Ao, out, p', a', R', A5, n5, c5, M', C', rfl, hm, hm60, ha', hc5, hsz, hC', hor, ho, hok, hcl, hb, hX, hR0, hR, hv, hk, hg⟩ := hrel
    have hml : m = out.length := ho.out.len
    by_cases hlt : m < N
    · have hlti : (m : Int) < (N : Int) := by omega
      obtain ⟨k, hkN⟩ : ∃ k : Nat, k = N - m := ⟨_, rfl⟩
      have hw : IntKind.i64.wrap ((N : Int) - (m : Int)) = (k : Int) := by rw [IntWalk.i64_in _ (by omega)]; omega
      obtain ⟨hv1, hk1, hpos, ha1⟩ := fl_step (R := R') hv.out (by omega) hz
      have HG := Lib.hid hg.out
      have HV1 := Lib.hid hv1
      have HKN := Lib.hid hkN
      have HML := Lib.hid hml
      have HP := Lib.hid hpos
      clear hg hv1 hkN hml hpos
      have x0 := (hX.out.2 0 _ rfl).1; have x1 := (hX.out.2 1 _ rfl).1; have x2 := (hX.out.2 2 _ rfl).1; have x3 := (hX.out.2 3 _ rfl).1; have x4 := (hX.out.2 4 _ rfl).1; have x5 := (hX.out.2 5 _ rfl).1
      go_wp2_with fail
      clear x0 x1 x2 x3 x4 x5
      refine (filled_any (HD.out.below hb.out hB) (HS.out.below hb.out hB') hR.out (by omega) (by omega) (by omega) hnc hc5 hv.out (by omega) hz hz').mono ?_
      rintro e w1 ⟨A6, n6, c6, M6, C6, rfl, hc6, hb1, hi1, hC6, hor1⟩
      have hs1 := hb1.size
      have HO1 := Lib.hid (ho.out.below hb1 (Nat.le_refl _))
      have X1 := Lib.hid (hX.out.below hb1 (by omega))
      have R1 := Lib.hid (hR0.out.below hb1 (by omega))
      have E1 := Lib.hid (below_step hb1 hb.out (by omega))
      have HI1 := Lib.hid hi1
      have HC1 : Hid (Clear (.slice Ao m co) M6 C6) := by
        show Clear _ _ _
        rcases hor1 with ⟨_, _, rfl, rfl⟩ | h
        · exact hcl.out
        · exact ho.out.clear h
      have hor2 : (A6 = A2 ∧ n6 = n2 ∧ M6 = M ∧ C6 = C) ∨ w.heap.size + 2 ≤ M6 := by
        rcases hor1 with ⟨rfl, rfl, rfl, rfl⟩ | h
        · exact hor
        · exact .inr (by omega)
      have hfar : w.heap.size < M6 ∨ C6 ≤ w.heap.size := by
        rcases hor2 with ⟨_, _, _, rfl⟩ | h
        · exact .inr hC
        · exact .inl (by omega)
      clear hb1 hi1 hor1 hor ho hX hR0 hb hR hcl hv
      obtain ⟨st, hst⟩ : ∃ st, flS D S p' a' R' = st := ⟨_, rfl⟩
      obtain ⟨p1, hp1⟩ : ∃ p1, flP D S z p' a' R' = p1 := ⟨_, rfl⟩
      obtain ⟨a1, ha1'⟩ : ∃ a1, flA a' R' = a1 := ⟨_, rfl⟩
      obtain ⟨R1', hR1'⟩ : ∃ R1', flR D S z p' a' R' = R1' := ⟨_, rfl⟩
      rw [hst, hR1'] at HP
      rw [hp1, ha1'] at HV1
      rw [hp1, hR1'] at hk1
      rw [ha1'] at ha1
      rw [hR1'] at HI1
      have HST := Lib.hid hst
      have HPP := Lib.hid hp1
      have HAA := Lib.hid ha1'
      have HRR := Lib.hid hR1'
      rw [hst, hp1, ha1']
      clear hst hp1 ha1' hR1'
      go_upto_region 4 with (fail)
      refine wp_rename (fun w2 => Hid (Box w2 w1.heap.size [.slice (A) n c, .int .i64 (p1), .slice (A') n' c', .int .i64 ((a1 : Int)), .slice (A6) n6 c6, .int .i64 (z)]) ∧ Hid (Box w2 w.heap.size [.slice (A) n c, .int .i64 (p'), .slice (A') n' c', .int .i64 ((a' : Int)), .slice (A5) n5 c5, .int .i64 (z)]) ∧ Hid (Box w2 (w.heap.size + 1) [.slice none 0 0, .int .i64 0, .slice none 0 0, .int .i64 0, .slice none 0 0, .int .i64 0]) ∧ Hid (Below w.heap.size w w2) ∧ Hid (Ints w2 M6 C6 A6 n6 R1') ∧ Hid (OwnI w2 (w.heap.size + 2) (.slice Ao m co) m out) ∧ w1.heap.size < w2.heap.size) ⟨Box.new w1 27 [.slice (A) n c, .int .i64 (p1), .slice (A') n' c', .int .i64 ((a1 : Int)), .slice (A6) n6 c6, .int .i64 (z)], X1.out.alloc _, R1.out.alloc _, E1.out.alloc (by omega) _, HI1.out.alloc hC6 _, HO1.out.alloc _, by simp⟩ ?_
      clear X1 R1 E1 HI1 HO1
      rintro w2 ⟨Y2, X2, R2, E2, HI2, HO2, s2⟩
      have y0 := (Y2.out.2 0 _ rfl).1; have y1 := (Y2.out.2 1 _ rfl).1; have y2 := (Y2.out.2 2 _ rfl).1; have y3 := (Y2.out.2 3 _ rfl).1; have y4 := (Y2.out.2 4 _ rfl).1; have y5 := (Y2.out.2 5 _ rfl).1
      have x0 := (X2.out.2 0 _ rfl).1; have x1 := (X2.out.2 1 _ rfl).1; have x2 := (X2.out.2 2 _ rfl).1; have x3 := (X2.out.2 3 _ rfl).1; have x4 := (X2.out.2 4 _ rfl).1; have x5 := (X2.out.2 5 _ rfl).1
      have f0 := (X2.out.2 0 _ rfl).2; have f1 := (X2.out.2 1 _ rfl).2; have f2 := (X2.out.2 2 _ rfl).2; have f3 := (X2.out.2 3 _ rfl).2; have f4 := (X2.out.2 4 _ rfl).2; have f5 := (X2.out.2 5 _ rfl).2
      go_upto_region 5 with (fail)
      clear y0 y1 y2 y3 y4 y5
      clear x0 x1 x2 x3 x4 x5
      clear f0 f1 f2 f3 f4 f5
      refine wp_rename (fun w3 => Hid (Box w3 w.heap.size [.slice (A) n c, .int .i64 (p1), .slice (A') n' c', .int .i64 ((a1 : Int)), .slice (A6) n6 c6, .int .i64 (z)]) ∧ Hid (Box w3 (w.heap.size + 1) [.slice none 0 0, .int .i64 0, .slice none 0 0, .int .i64 0, .slice none 0 0, .int .i64 0]) ∧ Hid (Below w.heap.size w w3) ∧ Hid (Ints w3 M6 C6 A6 n6 R1') ∧ Hid (OwnI w3 (w.heap.size + 2) (.slice Ao m co) m out) ∧ w1.heap.size < w3.heap.size) ⟨?_, ?_, ?_, ?_, ?_, ?_⟩ ?_
      · have hx := (((((X2.out.put (i := 0) (by simp) (.slice A n c)).put (i := 1) (by simp) (.int .i64 p1)).put (i := 2) (by simp) (.slice A' n' c')).put (i := 3) (by simp) (.int .i64 (a1 : Int))).put (i := 4) (by simp) (.slice A6 n6 c6)).put (i := 5) (by simp) (.int .i64 z)
        show Box _ _ _
        simpa using hx
      · show Box _ _ _
        (repeat (with_reducible refine Box.set_ ?_ (by omega) _))
        exact R2.out
      · show Below _ _ _
        (repeat (with_reducible refine below_set ?_ (by omega) _))
        exact E2.out
      · show Ints _ _ _ _ _ _
        (repeat (with_reducible refine Ints.set_ ?_ (by omega) _))
        exact HI2.out
      · show OwnI _ _ _ _ _
        (repeat (with_reducible refine OwnI.set_ ?_ (by omega) _))
        exact HO2.out
      · simp only [World.size_setCell]; omega
      clear Y2 X2 R2 E2 HI2 HO2 s2
      rintro w3 ⟨X3, R3, E3, HI3, HO3, s3⟩
      by_cases hst : st = 0
      · subst hst
        have hg60 : n6 ≤ 1000 := by have := HI3.out.len; omega
        have HQ : Hid (1 ≤ R1'.length) := HP.out rfl
        have x0 := (X3.out.2 0 _ rfl).1; have x1 := (X3.out.2 1 _ rfl).1; have x2 := (X3.out.2 2 _ rfl).1; have x3 := (X3.out.2 3 _ rfl).1; have x4 := (X3.out.2 4 _ rfl).1; have x5 := (X3.out.2 5 _ rfl).1
        go_wp2_with fail
        refine (indexOf_any HI3.out).mono ?_
        rintro e w3' ⟨ix, rfl, hix, rfl⟩
        have HIX := Lib.hid hix
        clear hix
        rcases HIX.out with ⟨hr, hno⟩ | ⟨i, hr, hat, hbef⟩
        · subst hr
          obtain ⟨mm, hmm⟩ : ∃ mm, mm = min k n6 := ⟨_, rfl⟩
          have HCH : Hid ((∀ x ∈ R1'.take mm, x ≠ bb) ∨ ∃ i, mm = i + 1 ∧ R1'[i]? = some bb ∧ ∀ x ∈ R1'.take i, x ≠ bb) := by
            show _ ∨ _
            have h2 := HI3.out.len
            left
            intro x hx
            exact hno x (List.mem_of_mem_take hx)
          have hmN : m + mm ≤ N := by have := HKN.out; omega
          have hmR : mm ≤ R1'.length := by have := HI3.out.len; omega
          have hpm : 1 ≤ mm := by have := HQ.out; have := HI3.out.len; have := HKN.out; omega
          have HMM := Lib.hid hmm
          have hk1000 : k ≤ 1000 := by have := HKN.out; omega
          clear hmm
          go_wp2_with fail
          clear x0 x1 x2 x3 x4 x5
          refine (given_any (k := k) HI3.out (by omega) hc6 hg60 hk1000 HMM.out).mono ?_
          rintro e w4 ⟨A7, c7, A8, n8, c8, Y, rfl, hc7, hc8, hb4, hY1, hY2, hi7, hi8⟩
          have hs4 := hb4.size
          have HO4 := Lib.hid (HO3.out.below hb4 (Nat.le_refl _))
          have X4 := Lib.hid (X3.out.below hb4 (by omega))
          have R4 := Lib.hid (R3.out.below hb4 (by omega))
          have E4 := Lib.hid (below_step hb4 E3.out (by omega))
          have HI7 := Lib.hid hi7
          have HI8 := Lib.hid hi8
          have HC4 : Hid (Clear (.slice Ao m co) Y w4.heap.size) := HO3.out.clear hY1
          clear hb4 hi7 hi8 HO3 X3 R3 E3 HI3 HC1
          go_upto_region 12 with (fail)
          refine wp_rename (fun w5 => Hid (Box w5 w4.heap.size [.slice (A) n c, .int .i64 (p1), .slice (A') n' c', .int .i64 ((a1 : Int)), .slice (A8) n8 c8, .int .i64 (z)]) ∧ Hid (Box w5 w.heap.size [.slice (A) n c, .int .i64 (p1), .slice (A') n' c', .int .i64 ((a1 : Int)), .slice (A6) n6 c6, .int .i64 (z)]) ∧ Hid (Box w5 (w.heap.size + 1) [.slice none 0 0, .int .i64 0, .slice none 0 0, .int .i64 0, .slice none 0 0, .int .i64 0]) ∧ Hid (Below w.heap.size w w5) ∧ Hid (Ints w5 w3.heap.size Y A7 mm (R1'.take mm)) ∧ Hid (Ints w5 Y w4.heap.size A8 n8 (R1'.drop mm)) ∧ Hid (OwnI w5 (w.heap.size + 2) (.slice Ao m co) m out) ∧ w4.heap.size < w5.heap.size) ⟨Box.new w4 27 [.slice (A) n c, .int .i64 (p1), .slice (A') n' c', .int .i64 ((a1 : Int)), .slice (A8) n8 c8, .int .i64 (z)], X4.out.alloc _, R4.out.alloc _, E4.out.alloc (by omega) _, HI7.out.alloc hY2 _, HI8.out.alloc (Nat.le_refl _) _, HO4.out.alloc _, by simp⟩ ?_
          clear X4 R4 E4 HI7 HI8 HO4
          rintro w5 ⟨Y5, X5, R5, E5, HI7, HI8, HO5, s5⟩
          have y0 := (Y5.out.2 0 _ rfl).1; have y1 := (Y5.out.2 1 _ rfl).1; have y2 := (Y5.out.2 2 _ rfl).1; have y3 := (Y5.out.2 3 _ rfl).1; have y4 := (Y5.out.2 4 _ rfl).1; have y5 := (Y5.out.2 5 _ rfl).1
          have x0 := (X5.out.2 0 _ rfl).1; have x1 := (X5.out.2 1 _ rfl).1; have x2 := (X5.out.2 2 _ rfl).1; have x3 := (X5.out.2 3 _ rfl).1; have x4 := (X5.out.2 4 _ rfl).1; have x5 := (X5.out.2 5 _ rfl).1
          have f0 := (X5.out.2 0 _ rfl).2; have f1 := (X5.out.2 1 _ rfl).2; have f2 := (X5.out.2 2 _ rfl).2; have f3 := (X5.out.2 3 _ rfl).2; have f4 := (X5.out.2 4 _ rfl).2; have f5 := (X5.out.2 5 _ rfl).2
          go_upto_region 13 with (fail)
          clear y0 y1 y2 y3 y4 y5
          clear x0 x1 x2 x3 x4 x5
          clear f0 f1 f2 f3 f4 f5
          refine wp_rename (fun w6 => Hid (Box w6 w.heap.size [.slice (A) n c, .int .i64 (p1), .slice (A') n' c', .int .i64 ((a1 : Int)), .slice (A8) n8 c8, .int .i64 (z)]) ∧ Hid (Box w6 (w.heap.size + 1) [.slice none 0 0, .int .i64 0, .slice none 0 0, .int .i64 0, .slice none 0 0, .int .i64 0]) ∧ Hid (Below w.heap.size w w6) ∧ Hid (Ints w6 w3.heap.size Y A7 mm (R1'.take mm)) ∧ Hid (Ints w6 Y w4.heap.size A8 n8 (R1'.drop mm)) ∧ Hid (OwnI w6 (w.heap.size + 2) (.slice Ao m co) m out) ∧ w4.heap.size < w6.heap.size) ⟨?_, ?_, ?_, ?_, ?_, ?_, ?_⟩ ?_
          · have hx := (((((X5.out.put (i := 0) (by simp) (.slice A n c)).put (i := 1) (by simp) (.int .i64 p1)).put (i := 2) (by simp) (.slice A' n' c')).put (i := 3) (by simp) (.int .i64 (a1 : Int))).put (i := 4) (by simp) (.slice A8 n8 c8)).put (i := 5) (by simp) (.int .i64 z)
            show Box _ _ _
            simpa using hx
          · show Box _ _ _
            (repeat (with_reducible refine Box.set_ ?_ (by omega) _))
            exact R5.out
          · show Below _ _ _
            (repeat (with_reducible refine below_set ?_ (by omega) _))
            exact E5.out
          · show Ints _ _ _ _ _ _
            (repeat (with_reducible refine Ints.set_ ?_ (by omega) _))
            exact HI7.out
          · show Ints _ _ _ _ _ _
            (repeat (with_reducible refine Ints.set_ ?_ (by omega) _))
            exact HI8.out
          · show OwnI _ _ _ _ _
            (repeat (with_reducible refine OwnI.set_ ?_ (by omega) _))
            exact HO5.out
          · simp only [World.size_setCell]; omega
          clear Y5 X5 R5 E5 HI7 HI8 HO5 s5
          rintro w6 ⟨X6, R6, E6, HI7, HI8, HO6, s6⟩
          go_wp2_with (at_builtin; refine wpList_append_at rfl _ _ rfl (w.heap.size + 2) (.slice Ao m co) m _ rfl HO6.out _ mm c7 _ rfl HI7.out (by omega) (by omega) ?_)
          intro v' w7 hown hgr hob
          have hok2 : ∀ x ∈ out ++ List.take mm R1', okInt x := by
            intro x hx
            rcases List.mem_append.1 hx with h | h
            · exact hok.out x h
            · exact HI7.out.ok x h
          obtain ⟨A3, c3, rfl, hc3, hi9⟩ := hown.ints hok2
          have HI9 := Lib.hid hi9
          clear hi9
          have HO7 := Lib.hid hown
          have HK7 := Lib.hid hok2
          have hk6 : ∀ k, k < w.heap.size + 2 → w7.heap[k]? = w6.heap[k]? := fun k hk => hgr.block k (by omega) (fun e => by have := (HO6.out.lt k e.symm).1; omega)
          have hs7 := hgr.size
          have X7 := Lib.hid (X6.out.block (hk6 _ (by omega)) hs7)
          have R7 := Lib.hid (R6.out.block (hk6 _ (by omega)) hs7)
          have E7 := Lib.hid (E6.out.trans ((below_grown HO6.out hgr (by omega)).mono (by omega)))
          have I7 := Lib.hid (HI8.out.grown hgr HC4.out (by omega))
          have HC7 := Lib.hid (HC4.out.later (s := w6.heap.size) (by omega) hob)
          have hdl : (List.drop mm R1').length ≤ R1'.length - mm := by rw [List.length_drop]; omega
          obtain ⟨u, hu⟩ : ∃ u : Nat, u = m + mm - 1 := ⟨_, rfl⟩
          have hwu : IntKind.i64.wrap (((m + mm : Nat) : Int) - 1) = (u : Int) := by rw [IntWalk.i64_in _ (by omega)]; omega
          have hwu2 : IntKind.i64.wrap ((m : Int) + (mm : Int) - 1) = (u : Int) := by rw [IntWalk.i64_in _ (by omega)]; omega
          have hu0 : (0 : Int) ≤ (u : Int) := by omega
          have hu1 : (u : Int) < ((m + mm : Nat) : Int) := by omega
          have hu2 : (u : Int) < (m : Int) + (mm : Int) := by omega
          obtain ⟨bx, ox, y, rfl, _, hcy, hy⟩ := HI9.out.at_ (k := u) (by omega)
          have HLast : Hid (R1'[mm - 1]? = some y) := by
            show _ = _
            have h1 := hy.out
            rw [List.getElem?_append_right (by rw [← HML.out]; omega), ← HML.out, List.getElem?_take, if_pos (by omega), show u - m = mm - 1 by omega] at h1
            exact h1
          have hml2 : out.length + mm ≤ N := by rw [← HML.out]; exact hmN
          have hfu : 62 - m = (62 - (m + mm)) + mm := by omega
          have HFU := Lib.hid hfu
          clear hown hok2 hgr hob hk6 X6 R6 E6 HI7 HI8 HO6 hu hfu
          by_cases hyb : y = bb
          · have HTT : Hid (T = ⟨p1, a1, R1'.drop mm, out ++ R1'.take mm, 0⟩) := by
              show T = _
              rcases HCH.out with h | ⟨i, h1, h2, h3⟩
              · exfalso
                refine h y ?_ hyb
                refine List.mem_of_getElem? (i := mm - 1) ?_
                rw [List.getElem?_take, if_pos (by omega)]
                exact HLast.out
              · have hgo := HG.out
                rw [HFU.out] at hgo
                subst h1
                exact until_hit HST.out HRR.out HPP.out HAA.out h2 hml2 h3 hgo
            subst hyb
            have HAP := Lib.hid (HO7.out.apart HC7.out I7.out)
            clear HCH HG
            have x0 := (X7.out.2 0 _ rfl).1; have x1 := (X7.out.2 1 _ rfl).1; have x2 := (X7.out.2 2 _ rfl).1; have x3 := (X7.out.2 3 _ rfl).1; have x4 := (X7.out.2 4 _ rfl).1; have x5 := (X7.out.2 5 _ rfl).1
            have r0 := (R7.out.2 0 _ rfl).1; have r1 := (R7.out.2 1 _ rfl).1; have r2 := (R7.out.2 2 _ rfl).1; have r3 := (R7.out.2 3 _ rfl).1; have r4 := (R7.out.2 4 _ rfl).1; have r5 := (R7.out.2 5 _ rfl).1
            have g0 := (R7.out.2 0 _ rfl).2; have g1 := (R7.out.2 1 _ rfl).2; have g2 := (R7.out.2 2 _ rfl).2; have g3 := (R7.out.2 3 _ rfl).2; have g4 := (R7.out.2 4 _ rfl).2; have g5 := (R7.out.2 5 _ rfl).2
            go_wp2
            refine bodyPost_ret (v := .tuple #[.agg #[.slice (A) n c, .int .i64 (p1), .slice (A') n' c', .int .i64 ((a1 : Int)), .slice (A8) n8 c8, .int .i64 (z)], .slice (some ⟨bx, ox, none⟩) (m + mm) c3, .int .i64 0]) (by simp [results, Try.results55, go_sem, r0, r1, r2, r3, r4, r5, g0, g1, g2, g3, g4, g5]) rfl ?_
            rw [HTT.out]
            refine ⟨some ⟨bx, ox, none⟩, m + mm, c3, A8, n8, c8, Y, w4.heap.size, rfl, hc3, hc8, ?_, ?_, ?_, .inr (by omega), ?_, HAP.out⟩
            · (repeat (with_reducible refine below_set ?_ (by omega) _))
              exact E7.out
            · (repeat (with_reducible refine Ints.set_ ?_ (by omega) _))
              exact I7.out
            · simp only [World.size_setCell]; omega
            · simp only [World.size_setCell]
              refine Ints.more (lo := w.heap.size + 2) (hi := w7.heap.size) ?_ (by omega) (by omega)
              (repeat (with_reducible refine Ints.set_ ?_ (by omega) _))
              exact HI9.out
          · have hye : (y == bb) = false := by simpa using hyb
            have hR : Hid (untilGo D S z N bb (62 - (m + mm)) p1 a1 (List.drop mm R1') (out ++ List.take mm R1') = T) := by
              show _ = T
              rcases HCH.out with h | ⟨i, h1, h2, h3⟩
              · have hgo := HG.out
                rw [HFU.out] at hgo
                exact until_chunk HST.out HRR.out HPP.out HAA.out hpm hmR hml2 h hgo
              · exfalso
                have h4 := HLast.out
                rw [h1, Nat.add_sub_cancel, h2] at h4
                injection h4 with h4
                exact hyb h4.symm
            clear hyb HCH HG HLast hy HI9 HML HFU HMM
            go_wp2
            go_roundw
            case rel => exact ⟨m + mm, c3, some ⟨bx, ox, none⟩, _, _, _, _, A8, n8, c8, Y, w4.heap.size, rfl, by omega, by omega, by omega, hc8, by omega, by omega, .inr (by omega), HO7, HK7, HC7, E7, X7, R7, I7, HV1, by omega, hR⟩
            case measure => simp [lenV]; omega
        · subst hr
          have hi0 : (0 : Int) ≤ (i : Int) := by omega
          have hil : i < 1000 := by have := (List.getElem?_eq_some_iff.1 hat).1; have := HI3.out.len; omega
          obtain ⟨v, hv⟩ : ∃ v : Nat, v = i + 1 := ⟨_, rfl⟩
          have hwv : IntKind.i64.wrap ((i : Int) + 1) = (v : Int) := by rw [IntWalk.i64_in _ (by omega)]; omega
          by_cases hvk : v < k
          · have hvkI : (v : Int) < (k : Int) := by omega
            obtain ⟨mm, hmm⟩ : ∃ mm, mm = min v n6 := ⟨_, rfl⟩
            have HCH : Hid ((∀ x ∈ R1'.take mm, x ≠ bb) ∨ ∃ i, mm = i + 1 ∧ R1'[i]? = some bb ∧ ∀ x ∈ R1'.take i, x ≠ bb) := by
              show _ ∨ _
              have h2 := HI3.out.len
              by_cases hlast : v ≤ n6
              · right
                exact ⟨i, by omega, hat, hbef⟩
              · left
                intro x hx
                exfalso
                have := (List.getElem?_eq_some_iff.1 hat).1
                omega
            have hmN : m + mm ≤ N := by have := HKN.out; omega
            have hmR : mm ≤ R1'.length := by have := HI3.out.len; omega
            have hpm : 1 ≤ mm := by have := HQ.out; have := HI3.out.len; have := HKN.out; omega
            have HMM := Lib.hid hmm
            have hk1000 : v ≤ 1000 := by have := HKN.out; omega
            clear hmm hv
            go_wp2_with fail
            clear x0 x1 x2 x3 x4 x5
            refine (given_any (k := v) HI3.out (by omega) hc6 hg60 hk1000 HMM.out).mono ?_
            rintro e w4 ⟨A7, c7, A8, n8, c8, Y, rfl, hc7, hc8, hb4, hY1, hY2, hi7, hi8⟩
            have hs4 := hb4.size
            have HO4 := Lib.hid (HO3.out.below hb4 (Nat.le_refl _))
            have X4 := Lib.hid (X3.out.below hb4 (by omega))
            have R4 := Lib.hid (R3.out.below hb4 (by omega))
            have E4 := Lib.hid (below_step hb4 E3.out (by omega))
            have HI7 := Lib.hid hi7
            have HI8 := Lib.hid hi8
            have HC4 : Hid (Clear (.slice Ao m co) Y w4.heap.size) := HO3.out.clear hY1
            clear hb4 hi7 hi8 HO3 X3 R3 E3 HI3 HC1
            go_upto_region 12 with (fail)
            refine wp_rename (fun w5 => Hid (Box w5 w4.heap.size [.slice (A) n c, .int .i64 (p1), .slice (A') n' c', .int .i64 ((a1 : Int)), .slice (A8) n8 c8, .int .i64 (z)]) ∧ Hid (Box w5 w.heap.size [.slice (A) n c, .int .i64 (p1), .slice (A') n' c', .int .i64 ((a1 : Int)), .slice (A6) n6 c6, .int .i64 (z)]) ∧ Hid (Box w5 (w.heap.size + 1) [.slice none 0 0, .int .i64 0, .slice none 0 0, .int .i64 0, .slice none 0 0, .int .i64 0]) ∧ Hid (Below w.heap.size w w5) ∧ Hid (Ints w5 w3.heap.size Y A7 mm (R1'.take mm)) ∧ Hid (Ints w5 Y w4.heap.size A8 n8 (R1'.drop mm)) ∧ Hid (OwnI w5 (w.heap.size + 2) (.slice Ao m co) m out) ∧ w4.heap.size < w5.heap.size) ⟨Box.new w4 27 [.slice (A) n c, .int .i64 (p1), .slice (A') n' c', .int .i64 ((a1 : Int)), .slice (A8) n8 c8, .int .i64 (z)], X4.out.alloc _, R4.out.alloc _, E4.out.alloc (by omega) _, HI7.out.alloc hY2 _, HI8.out.alloc (Nat.le_refl _) _, HO4.out.alloc _, by simp⟩ ?_
            clear X4 R4 E4 HI7 HI8 HO4
            rintro w5 ⟨Y5, X5, R5, E5, HI7, HI8, HO5, s5⟩
            have y0 := (Y5.out.2 0 _ rfl).1; have y1 := (Y5.out.2 1 _ rfl).1; have y2 := (Y5.out.2 2 _ rfl).1; have y3 := (Y5.out.2 3 _ rfl).1; have y4 := (Y5.out.2 4 _ rfl).1; have y5 := (Y5.out.2 5 _ rfl).1
            have x0 := (X5.out.2 0 _ rfl).1; have x1 := (X5.out.2 1 _ rfl).1; have x2 := (X5.out.2 2 _ rfl).1; have x3 := (X5.out.2 3 _ rfl).1; have x4 := (X5.out.2 4 _ rfl).1; have x5 := (X5.out.2 5 _ rfl).1
            have f0 := (X5.out.2 0 _ rfl).2; have f1 := (X5.out.2 1 _ rfl).2; have f2 := (X5.out.2 2 _ rfl).2; have f3 := (X5.out.2 3 _ rfl).2; have f4 := (X5.out.2 4 _ rfl).2; have f5 := (X5.out.2 5 _ rfl).2
            go_upto_region 13 with (fail)
            clear y0 y1 y2 y3 y4 y5
            clear x0 x1 x2 x3 x4 x5
            clear f0 f1 f2 f3 f4 f5
            refine wp_rename (fun w6 => Hid (Box w6 w.heap.size [.slice (A) n c, .int .i64 (p1), .slice (A') n' c', .int .i64 ((a1 : Int)), .slice (A8) n8 c8, .int .i64 (z)]) ∧ Hid (Box w6 (w.heap.size + 1) [.slice none 0 0, .int .i64 0, .slice none 0 0, .int .i64 0, .slice none 0 0, .int .i64 0]) ∧ Hid (Below w.heap.size w w6) ∧ Hid (Ints w6 w3.heap.size Y A7 mm (R1'.take mm)) ∧ Hid (Ints w6 Y w4.heap.size A8 n8 (R1'.drop mm)) ∧ Hid (OwnI w6 (w.heap.size + 2) (.slice Ao m co) m out) ∧ w4.heap.size < w6.heap.size) ⟨?_, ?_, ?_, ?_, ?_, ?_, ?_⟩ ?_
            · have hx := (((((X5.out.put (i := 0) (by simp) (.slice A n c)).put (i := 1) (by simp) (.int .i64 p1)).put (i := 2) (by simp) (.slice A' n' c')).put (i := 3) (by simp) (.int .i64 (a1 : Int))).put (i := 4) (by simp) (.slice A8 n8 c8)).put (i := 5) (by simp) (.int .i64 z)
              show Box _ _ _
              simpa using hx
            · show Box _ _ _
              (repeat (with_reducible refine Box.set_ ?_ (by omega) _))
              exact R5.out
            · show Below _ _ _
              (repeat (with_reducible refine below_set ?_ (by omega) _))
              exact E5.out
            · show Ints _ _ _ _ _ _
              (repeat (with_reducible refine Ints.set_ ?_ (by omega) _))
              exact HI7.out
            · show Ints _ _ _ _ _ _
              (repeat (with_reducible refine Ints.set_ ?_ (by omega) _))
              exact HI8.out
            · show OwnI _ _ _ _ _
              (repeat (with_reducible refine OwnI.set_ ?_ (by omega) _))
              exact HO5.out
            · simp only [World.size_setCell]; omega
            clear Y5 X5 R5 E5 HI7 HI8 HO5 s5
            rintro w6 ⟨X6, R6, E6, HI7, HI8, HO6, s6⟩
            go_wp2_with (at_builtin; refine wpList_append_at rfl _ _ rfl (w.heap.size + 2) (.slice Ao m co) m _ rfl HO6.out _ mm c7 _ rfl HI7.out (by omega) (by omega) ?_)
            intro v' w7 hown hgr hob
            have hok2 : ∀ x ∈ out ++ List.take mm R1', okInt x := by
              intro x hx
              rcases List.mem_append.1 hx with h | h
              · exact hok.out x h
              · exact HI7.out.ok x h
            obtain ⟨A3, c3, rfl, hc3, hi9⟩ := hown.ints hok2
            have HI9 := Lib.hid hi9
            clear hi9
            have HO7 := Lib.hid hown
            have HK7 := Lib.hid hok2
            have hk6 : ∀ k, k < w.heap.size + 2 → w7.heap[k]? = w6.heap[k]? := fun k hk => hgr.block k (by omega) (fun e => by have := (HO6.out.lt k e.symm).1; omega)
            have hs7 := hgr.size
            have X7 := Lib.hid (X6.out.block (hk6 _ (by omega)) hs7)
            have R7 := Lib.hid (R6.out.block (hk6 _ (by omega)) hs7)
            have E7 := Lib.hid (E6.out.trans ((below_grown HO6.out hgr (by omega)).mono (by omega)))
            have I7 := Lib.hid (HI8.out.grown hgr HC4.out (by omega))
            have HC7 := Lib.hid (HC4.out.later (s := w6.heap.size) (by omega) hob)
            have hdl : (List.drop mm R1').length ≤ R1'.length - mm := by rw [List.length_drop]; omega
            obtain ⟨u, hu⟩ : ∃ u : Nat, u = m + mm - 1 := ⟨_, rfl⟩
            clear hwv
            have hwu : IntKind.i64.wrap (((m + mm : Nat) : Int) - 1) = (u : Int) := by rw [IntWalk.i64_in _ (by omega)]; omega
            have hwu2 : IntKind.i64.wrap ((m : Int) + (mm : Int) - 1) = (u : Int) := by rw [IntWalk.i64_in _ (by omega)]; omega
            have hu0 : (0 : Int) ≤ (u : Int) := by omega
            have hu1 : (u : Int) < ((m + mm : Nat) : Int) := by omega
            have hu2 : (u : Int) < (m : Int) + (mm : Int) := by omega
            obtain ⟨bx, ox, y, rfl, _, hcy, hy⟩ := HI9.out.at_ (k := u) (by omega)
            have HLast : Hid (R1'[mm - 1]? = some y) := by
              show _ = _
              have h1 := hy.out
              rw [List.getElem?_append_right (by rw [← HML.out]; omega), ← HML.out, List.getElem?_take, if_pos (by omega), show u - m = mm - 1 by omega] at h1
              exact h1
            have hml2 : out.length + mm ≤ N := by rw [← HML.out]; exact hmN
            have hfu : 62 - m = (62 - (m + mm)) + mm := by omega
            have HFU := Lib.hid hfu
            clear hown hok2 hgr hob hk6 X6 R6 E6 HI7 HI8 HO6 hu hfu
            by_cases hyb : y = bb
            · have HTT : Hid (T = ⟨p1, a1, R1'.drop mm, out ++ R1'.take mm, 0⟩) := by
                show T = _
                rcases HCH.out with h | ⟨i, h1, h2, h3⟩
                · exfalso
                  refine h y ?_ hyb
                  refine List.mem_of_getElem? (i := mm - 1) ?_
                  rw [List.getElem?_take, if_pos (by omega)]
                  exact HLast.out
                · have hgo := HG.out
                  rw [HFU.out] at hgo
                  subst h1
                  exact until_hit HST.out HRR.out HPP.out HAA.out h2 hml2 h3 hgo
              subst hyb
              have HAP := Lib.hid (HO7.out.apart HC7.out I7.out)
              clear HCH HG
              have x0 := (X7.out.2 0 _ rfl).1; have x1 := (X7.out.2 1 _ rfl).1; have x2 := (X7.out.2 2 _ rfl).1; have x3 := (X7.out.2 3 _ rfl).1; have x4 := (X7.out.2 4 _ rfl).1; have x5 := (X7.out.2 5 _ rfl).1
              have r0 := (R7.out.2 0 _ rfl).1; have r1 := (R7.out.2 1 _ rfl).1; have r2 := (R7.out.2 2 _ rfl).1; have r3 := (R7.out.2 3 _ rfl).1; have r4 := (R7.out.2 4 _ rfl).1; have r5 := (R7.out.2 5 _ rfl).1
              have g0 := (R7.out.2 0 _ rfl).2; have g1 := (R7.out.2 1 _ rfl).2; have g2 := (R7.out.2 2 _ rfl).2; have g3 := (R7.out.2 3 _ rfl).2; have g4 := (R7.out.2 4 _ rfl).2; have g5 := (R7.out.2 5 _ rfl).2
              go_wp2
              refine bodyPost_ret (v := .tuple #[.agg #[.slice (A) n c, .int .i64 (p1), .slice (A') n' c', .int .i64 ((a1 : Int)), .slice (A8) n8 c8, .int .i64 (z)], .slice (some ⟨bx, ox, none⟩) (m + mm) c3, .int .i64 0]) (by simp [results, Try.results55, go_sem, r0, r1, r2, r3, r4, r5, g0, g1, g2, g3, g4, g5]) rfl ?_
              rw [HTT.out]
              refine ⟨some ⟨bx, ox, none⟩, m + mm, c3, A8, n8, c8, Y, w4.heap.size, rfl, hc3, hc8, ?_, ?_, ?_, .inr (by omega), ?_, HAP.out⟩
              · (repeat (with_reducible refine below_set ?_ (by omega) _))
                exact E7.out
              · (repeat (with_reducible refine Ints.set_ ?_ (by omega) _))
                exact I7.out
              · simp only [World.size_setCell]; omega
              · simp only [World.size_setCell]
                refine Ints.more (lo := w.heap.size + 2) (hi := w7.heap.size) ?_ (by omega) (by omega)
                (repeat (with_reducible refine Ints.set_ ?_ (by omega) _))
                exact HI9.out
            · have hye : (y == bb) = false := by simpa using hyb
              have hR : Hid (untilGo D S z N bb (62 - (m + mm)) p1 a1 (List.drop mm R1') (out ++ List.take mm R1') = T) := by
                show _ = T
                rcases HCH.out with h | ⟨i, h1, h2, h3⟩
                · have hgo := HG.out
                  rw [HFU.out] at hgo
                  exact until_chunk HST.out HRR.out HPP.out HAA.out hpm hmR hml2 h hgo
                · exfalso
                  have h4 := HLast.out
                  rw [h1, Nat.add_sub_cancel, h2] at h4
                  injection h4 with h4
                  exact hyb h4.symm
              clear hyb HCH HG HLast hy HI9 HML HFU HMM
              go_wp2
              go_roundw
              case rel => exact ⟨m + mm, c3, some ⟨bx, ox, none⟩, _, _, _, _, A8, n8, c8, Y, w4.heap.size, rfl, by omega, by omega, by omega, hc8, by omega, by omega, .inr (by omega), HO7, HK7, HC7, E7, X7, R7, I7, HV1, by omega, hR⟩
              case measure => simp [lenV]; omega
          · have hvkI : ¬ (v : Int) < (k : Int) := by omega
            have hkv : (k : Int) ≤ (v : Int) := by omega
            obtain ⟨mm, hmm⟩ : ∃ mm, mm = min k n6 := ⟨_, rfl⟩
            have HCH : Hid ((∀ x ∈ R1'.take mm, x ≠ bb) ∨ ∃ i, mm = i + 1 ∧ R1'[i]? = some bb ∧ ∀ x ∈ R1'.take i, x ≠ bb) := by
              show _ ∨ _
              have h2 := HI3.out.len
              by_cases hlast : k = i + 1
              · right
                have := (List.getElem?_eq_some_iff.1 hat).1
                exact ⟨i, by omega, hat, hbef⟩
              · left
                intro x hx
                exact hbef x (by
                  have e : R1'.take mm = (R1'.take i).take mm := by rw [List.take_take, Nat.min_eq_left (by omega)]
                  rw [e] at hx
                  exact List.mem_of_mem_take hx)
            have hmN : m + mm ≤ N := by have := HKN.out; omega
            have hmR : mm ≤ R1'.length := by have := HI3.out.len; omega
            have hpm : 1 ≤ mm := by have := HQ.out; have := HI3.out.len; have := HKN.out; omega
            have HMM := Lib.hid hmm
            have hk1000 : k ≤ 1000 := by have := HKN.out; omega
            clear hmm hv
            go_wp2_with fail
            clear x0 x1 x2 x3 x4 x5
            refine (given_any (k := k) HI3.out (by omega) hc6 hg60 hk1000 HMM.out).mono ?_
            rintro e w4 ⟨A7, c7, A8, n8, c8, Y, rfl, hc7, hc8, hb4, hY1, hY2, hi7, hi8⟩
            have hs4 := hb4.size
            have HO4 := Lib.hid (HO3.out.below hb4 (Nat.le_refl _))
            have X4 := Lib.hid (X3.out.below hb4 (by omega))
            have R4 := Lib.hid (R3.out.below hb4 (by omega))
            have E4 := Lib.hid (below_step hb4 E3.out (by omega))
            have HI7 := Lib.hid hi7
            have HI8 := Lib.hid hi8
            have HC4 : Hid (Clear (.slice Ao m co) Y w4.heap.size) := HO3.out.clear hY1
            clear hb4 hi7 hi8 HO3 X3 R3 E3 HI3 HC1
            go_upto_region 12 with (fail)
            refine wp_rename (fun w5 => Hid (Box w5 w4.heap.size [.slice (A) n c, .int .i64 (p1), .slice (A') n' c', .int .i64 ((a1 : Int)), .slice (A8) n8 c8, .int .i64 (z)]) ∧ Hid (Box w5 w.heap.size [.slice (A) n c, .int .i64 (p1), .slice (A') n' c', .int .i64 ((a1 : Int)), .slice (A6) n6 c6, .int .i64 (z)]) ∧ Hid (Box w5 (w.heap.size + 1) [.slice none 0 0, .int .i64 0, .slice none 0 0, .int .i64 0, .slice none 0 0, .int .i64 0]) ∧ Hid (Below w.heap.size w w5) ∧ Hid (Ints w5 w3.heap.size Y A7 mm (R1'.take mm)) ∧ Hid (Ints w5 Y w4.heap.size A8 n8 (R1'.drop mm)) ∧ Hid (OwnI w5 (w.heap.size + 2) (.slice Ao m co) m out) ∧ w4.heap.size < w5.heap.size) ⟨Box.new w4 27 [.slice (A) n c, .int .i64 (p1), .slice (A') n' c', .int .i64 ((a1 : Int)), .slice (A8) n8 c8, .int .i64 (z)], X4.out.alloc _, R4.out.alloc _, E4.out.alloc (by omega) _, HI7.out.alloc hY2 _, HI8.out.alloc (Nat.le_refl _) _, HO4.out.alloc _, by simp⟩ ?_
            clear X4 R4 E4 HI7 HI8 HO4
            rintro w5 ⟨Y5, X5, R5, E5, HI7, HI8, HO5, s5⟩
            have y0 := (Y5.out.2 0 _ rfl).1; have y1 := (Y5.out.2 1 _ rfl).1; have y2 := (Y5.out.2 2 _ rfl).1; have y3 := (Y5.out.2 3 _ rfl).1; have y4 := (Y5.out.2 4 _ rfl).1; have y5 := (Y5.out.2 5 _ rfl).1
            have x0 := (X5.out.2 0 _ rfl).1; have x1 := (X5.out.2 1 _ rfl).1; have x2 := (X5.out.2 2 _ rfl).1; have x3 := (X5.out.2 3 _ rfl).1; have x4 := (X5.out.2 4 _ rfl).1; have x5 := (X5.out.2 5 _ rfl).1
            have f0 := (X5.out.2 0 _ rfl).2; have f1 := (X5.out.2 1 _ rfl).2; have f2 := (X5.out.2 2 _ rfl).2; have f3 := (X5.out.2 3 _ rfl).2; have f4 := (X5.out.2 4 _ rfl).2; have f5 := (X5.out.2 5 _ rfl).2
            go_upto_region 13 with (fail)
            clear y0 y1 y2 y3 y4 y5
            clear x0 x1 x2 x3 x4 x5
            clear f0 f1 f2 f3 f4 f5
            refine wp_rename (fun w6 => Hid (Box w6 w.heap.size [.slice (A) n c, .int .i64 (p1), .slice (A') n' c', .int .i64 ((a1 : Int)), .slice (A8) n8 c8, .int .i64 (z)]) ∧ Hid (Box w6 (w.heap.size + 1) [.slice none 0 0, .int .i64 0, .slice none 0 0, .int .i64 0, .slice none 0 0, .int .i64 0]) ∧ Hid (Below w.heap.size w w6) ∧ Hid (Ints w6 w3.heap.size Y A7 mm (R1'.take mm)) ∧ Hid (Ints w6 Y w4.heap.size A8 n8 (R1'.drop mm)) ∧ Hid (OwnI w6 (w.heap.size + 2) (.slice Ao m co) m out) ∧ w4.heap.size < w6.heap.size) ⟨?_, ?_, ?_, ?_, ?_, ?_, ?_⟩ ?_
            · have hx := (((((X5.out.put (i := 0) (by simp) (.slice A n c)).put (i := 1) (by simp) (.int .i64 p1)).put (i := 2) (by simp) (.slice A' n' c')).put (i := 3) (by simp) (.int .i64 (a1 : Int))).put (i := 4) (by simp) (.slice A8 n8 c8)).put (i := 5) (by simp) (.int .i64 z)
              show Box _ _ _
              simpa using hx
            · show Box _ _ _
              (repeat (with_reducible refine Box.set_ ?_ (by omega) _))
              exact R5.out
            · show Below _ _ _
              (repeat (with_reducible refine below_set ?_ (by omega) _))
              exact E5.out
            · show Ints _ _ _ _ _ _
              (repeat (with_reducible refine Ints.set_ ?_ (by omega) _))
              exact HI7.out
            · show Ints _ _ _ _ _ _
              (repeat (with_reducible refine Ints.set_ ?_ (by omega) _))
              exact HI8.out
            · show OwnI _ _ _ _ _
              (repeat (with_reducible refine OwnI.set_ ?_ (by omega) _))
              exact HO5.out
            · simp only [World.size_setCell]; omega
            clear Y5 X5 R5 E5 HI7 HI8 HO5 s5
            rintro w6 ⟨X6, R6, E6, HI7, HI8, HO6, s6⟩
            go_wp2_with (at_builtin; refine wpList_append_at rfl _ _ rfl (w.heap.size + 2) (.slice Ao m co) m _ rfl HO6.out _ mm c7 _ rfl HI7.out (by omega) (by omega) ?_)
            intro v' w7 hown hgr hob
            have hok2 : ∀ x ∈ out ++ List.take mm R1', okInt x := by
              intro x hx
              rcases List.mem_append.1 hx with h | h
              · exact hok.out x h
              · exact HI7.out.ok x h
            obtain ⟨A3, c3, rfl, hc3, hi9⟩ := hown.ints hok2
            have HI9 := Lib.hid hi9
            clear hi9
            have HO7 := Lib.hid hown
            have HK7 := Lib.hid hok2
            have hk6 : ∀ k, k < w.heap.size + 2 → w7.heap[k]? = w6.heap[k]? := fun k hk => hgr.block k (by omega) (fun e => by have := (HO6.out.lt k e.symm).1; omega)
            have hs7 := hgr.size
            have X7 := Lib.hid (X6.out.block (hk6 _ (by omega)) hs7)
            have R7 := Lib.hid (R6.out.block (hk6 _ (by omega)) hs7)
            have E7 := Lib.hid (E6.out.trans ((below_grown HO6.out hgr (by omega)).mono (by omega)))
            have I7 := Lib.hid (HI8.out.grown hgr HC4.out (by omega))
            have HC7 := Lib.hid (HC4.out.later (s := w6.heap.size) (by omega) hob)
            have hdl : (List.drop mm R1').length ≤ R1'.length - mm := by rw [List.length_drop]; omega
            obtain ⟨u, hu⟩ : ∃ u : Nat, u = m + mm - 1 := ⟨_, rfl⟩
            have hwu : IntKind.i64.wrap (((m + mm : Nat) : Int) - 1) = (u : Int) := by rw [IntWalk.i64_in _ (by omega)]; omega
            have hwu2 : IntKind.i64.wrap ((m : Int) + (mm : Int) - 1) = (u : Int) := by rw [IntWalk.i64_in _ (by omega)]; omega
            have hu0 : (0 : Int) ≤ (u : Int) := by omega
            have hu1 : (u : Int) < ((m + mm : Nat) : Int) := by omega
            have hu2 : (u : Int) < (m : Int) + (mm : Int) := by omega
            obtain ⟨bx, ox, y, rfl, _, hcy, hy⟩ := HI9.out.at_ (k := u) (by omega)
            have HLast : Hid (R1'[mm - 1]? = some y) := by
              show _ = _
              have h1 := hy.out
              rw [List.getElem?_append_right (by rw [← HML.out]; omega), ← HML.out, List.getElem?_take, if_pos (by omega), show u - m = mm - 1 by omega] at h1
              exact h1
            have hml2 : out.length + mm ≤ N := by rw [← HML.out]; exact hmN
            have hfu : 62 - m = (62 - (m + mm)) + mm := by omega
            have HFU := Lib.hid hfu
            clear hown hok2 hgr hob hk6 X6 R6 E6 HI7 HI8 HO6 hu hfu
            by_cases hyb : y = bb
            · have HTT : Hid (T = ⟨p1, a1, R1'.drop mm, out ++ R1'.take mm, 0⟩) := by
                show T = _
                rcases HCH.out with h | ⟨i, h1, h2, h3⟩
                · exfalso
                  refine h y ?_ hyb
                  refine List.mem_of_getElem? (i := mm - 1) ?_
                  rw [List.getElem?_take, if_pos (by omega)]
                  exact HLast.out
                · have hgo := HG.out
                  rw [HFU.out] at hgo
                  subst h1
                  exact until_hit HST.out HRR.out HPP.out HAA.out h2 hml2 h3 hgo
              subst hyb
              have HAP := Lib.hid (HO7.out.apart HC7.out I7.out)
              clear HCH HG
              have x0 := (X7.out.2 0 _ rfl).1; have x1 := (X7.out.2 1 _ rfl).1; have x2 := (X7.out.2 2 _ rfl).1; have x3 := (X7.out.2 3 _ rfl).1; have x4 := (X7.out.2 4 _ rfl).1; have x5 := (X7.out.2 5 _ rfl).1
              have r0 := (R7.out.2 0 _ rfl).1; have r1 := (R7.out.2 1 _ rfl).1; have r2 := (R7.out.2 2 _ rfl).1; have r3 := (R7.out.2 3 _ rfl).1; have r4 := (R7.out.2 4 _ rfl).1; have r5 := (R7.out.2 5 _ rfl).1
              have g0 := (R7.out.2 0 _ rfl).2; have g1 := (R7.out.2 1 _ rfl).2; have g2 := (R7.out.2 2 _ rfl).2; have g3 := (R7.out.2 3 _ rfl).2; have g4 := (R7.out.2 4 _ rfl).2; have g5 := (R7.out.2 5 _ rfl).2
              go_wp2
              refine bodyPost_ret (v := .tuple #[.agg #[.slice (A) n c, .int .i64 (p1), .slice (A') n' c', .int .i64 ((a1 : Int)), .slice (A8) n8 c8, .int .i64 (z)], .slice (some ⟨bx, ox, none⟩) (m + mm) c3, .int .i64 0]) (by simp [results, Try.results55, go_sem, r0, r1, r2, r3, r4, r5, g0, g1, g2, g3, g4, g5]) rfl ?_
              rw [HTT.out]
              refine ⟨some ⟨bx, ox, none⟩, m + mm, c3, A8, n8, c8, Y, w4.heap.size, rfl, hc3, hc8, ?_, ?_, ?_, .inr (by omega), ?_, HAP.out⟩
              · (repeat (with_reducible refine below_set ?_ (by omega) _))
                exact E7.out
              · (repeat (with_reducible refine Ints.set_ ?_ (by omega) _))
                exact I7.out
              · simp only [World.size_setCell]; omega
              · simp only [World.size_setCell]
                refine Ints.more (lo := w.heap.size + 2) (hi := w7.heap.size) ?_ (by omega) (by omega)
                (repeat (with_reducible refine Ints.set_ ?_ (by omega) _))
                exact HI9.out
            · have hye : (y == bb) = false := by simpa using hyb
              have hR : Hid (untilGo D S z N bb (62 - (m + mm)) p1 a1 (List.drop mm R1') (out ++ List.take mm R1') = T) := by
                show _ = T
                rcases HCH.out with h | ⟨i, h1, h2, h3⟩
                · have hgo := HG.out
                  rw [HFU.out] at hgo
                  exact until_chunk HST.out HRR.out HPP.out HAA.out hpm hmR hml2 h hgo
                · exfalso
                  have h4 := HLast.out
                  rw [h1, Nat.add_sub_cancel, h2] at h4
                  injection h4 with h4
                  exact hyb h4.symm
              clear hyb HCH HG HLast hy HI9 HML HFU HMM
              go_wp2
              go_roundw
              case rel => exact ⟨m + mm, c3, some ⟨bx, ox, none⟩, _, _, _, _, A8, n8, c8, Y, w4.heap.size, rfl, by omega, by omega, by omega, hc8, by omega, by omega, .inr (by omega), HO7, HK7, HC7, E7, X7, R7, I7, HV1, by omega, hR⟩
              case measure => simp [lenV]; omega
      · have hne : (st != 0) = true := by simpa using hst
        have HTT : Hid (T = ⟨p1, a1, R1', out, st⟩) := by
          show T = _
          have h1 := HG.out
          rw [show 62 - m = (61 - m) + 1 from by omega] at h1
          unfold untilGo at h1
          rw [if_neg (by rw [← HML.out]; omega), HST.out, HRR.out, HPP.out, HAA.out, if_neg hst] at h1
          exact h1.symm
        clear hst HP
        obtain ⟨A3, c3, e3, hc3, hi3⟩ := HO3.out.ints hok.out
        injection e3 with e1 _ e2
        subst e1; subst e2
        have HI9 := Lib.hid hi3
        have HAP := Lib.hid (HO3.out.apart HC1.out HI3.out)
        clear hi3
        have x0 := (X3.out.2 0 _ rfl).1; have x1 := (X3.out.2 1 _ rfl).1; have x2 := (X3.out.2 2 _ rfl).1; have x3 := (X3.out.2 3 _ rfl).1; have x4 := (X3.out.2 4 _ rfl).1; have x5 := (X3.out.2 5 _ rfl).1
        have r0 := (R3.out.2 0 _ rfl).1; have r1 := (R3.out.2 1 _ rfl).1; have r2 := (R3.out.2 2 _ rfl).1; have r3 := (R3.out.2 3 _ rfl).1; have r4 := (R3.out.2 4 _ rfl).1; have r5 := (R3.out.2 5 _ rfl).1
        have g0 := (R3.out.2 0 _ rfl).2; have g1 := (R3.out.2 1 _ rfl).2; have g2 := (R3.out.2 2 _ rfl).2; have g3 := (R3.out.2 3 _ rfl).2; have g4 := (R3.out.2 4 _ rfl).2; have g5 := (R3.out.2 5 _ rfl).2
        go_wp2
        refine bodyPost_ret (v := .tuple #[.agg #[.slice (A) n c, .int .i64 (p1), .slice (A') n' c', .int .i64 ((a1 : Int)), .slice (A6) n6 c6, .int .i64 (z)], .slice Ao m co, .int .i64 st]) (by simp [results, Try.results55, go_sem, r0, r1, r2, r3, r4, r5, g0, g1, g2, g3, g4, g5]) rfl ?_
        rw [HTT.out]
        refine ⟨Ao, m, co, A6, n6, c6, M6, C6, rfl, hc3, hc6, ?_, ?_, ?_, ?_, ?_, HAP.out⟩
        · (repeat (with_reducible refine below_set ?_ (by omega) _))
          exact E3.out
        · (repeat (with_reducible refine Ints.set_ ?_ (by omega) _))
          exact HI3.out
        · simp only [World.size_setCell]; omega
        · rcases hor2 with h | h
          · exact .inl h
          · exact .inr (by omega)
        · simp only [World.size_setCell]
          refine Ints.more (lo := w.heap.size + 2) (hi := w3.heap.size) ?_ (by omega) (by omega)
          (repeat (with_reducible refine Ints.set_ ?_ (by omega) _))
          exact HI9.out
    · have hlti : ¬ (m : Int) < (N : Int) := by omega
      have HTT : Hid (T = ⟨p', a', R', out, 0⟩) := by
        show T = _
        have h1 := hg.out
        rw [show 62 - m = (61 - m) + 1 from by omega, untilGo, if_pos (by omega)] at h1
        exact h1.symm
      have hfar : w.heap.size + 1 < M' ∨ C' ≤ w.heap.size + 1 := by
        rcases hor with ⟨_, _, _, rfl⟩ | h
        · exact .inr (by omega)
        · exact .inl (by omega)
      clear hg hml
      obtain ⟨A3, c3, e3, hc3, hi3⟩ := ho.out.ints hok.out
      injection e3 with e1 _ e2
      subst e1; subst e2
      have HI9 := Lib.hid hi3
      have HAP := Lib.hid (ho.out.apart hcl.out hR.out)
      clear hi3
      have x0 := (hX.out.2 0 _ rfl).1; have x1 := (hX.out.2 1 _ rfl).1; have x2 := (hX.out.2 2 _ rfl).1; have x3 := (hX.out.2 3 _ rfl).1; have x4 := (hX.out.2 4 _ rfl).1; have x5 := (hX.out.2 5 _ rfl).1
      have r0 := (hR0.out.2 0 _ rfl).1; have r1 := (hR0.out.2 1 _ rfl).1; have r2 := (hR0.out.2 2 _ rfl).1; have r3 := (hR0.out.2 3 _ rfl).1; have r4 := (hR0.out.2 4 _ rfl).1; have r5 := (hR0.out.2 5 _ rfl).1
      have g0 := (hR0.out.2 0 _ rfl).2; have g1 := (hR0.out.2 1 _ rfl).2; have g2 := (hR0.out.2 2 _ rfl).2; have g3 := (hR0.out.2 3 _ rfl).2; have g4 := (hR0.out.2 4 _ rfl).2; have g5 := (hR0.out.2 5 _ rfl).2
      go_wp2
      refine bodyPost_ret (v := .tuple #[.agg #[.slice (A) n c, .int .i64 (p'), .slice (A') n' c', .int .i64 ((a' : Int)), .slice (A5) n5 c5, .int .i64 (z)], .slice Ao m co, .int .i64 0]) (by simp [results, Try.results55, go_sem, r0, r1, r2, r3, r4, r5, g0, g1, g2, g3, g4, g5]) rfl ?_
      rw [HTT.out]
      refine ⟨Ao, m, co, A5, n5, c5, M', C', rfl, hc3, hc5, ?_, ?_, ?_, ?_, ?_, HAP.out⟩
      · (repeat (with_reducible refine below_set ?_ (by omega) _))
        exact hb.out
      · (repeat (with_reducible refine Ints.set_ ?_ (by omega) _))
        exact hR.out
      · simp only [World.size_setCell]; omega
      · rcases hor with h | h
        · exact .inl h
        · exact .inr (by omega)
      · simp only [World.size_setCell]
        refine Ints.more (lo := w.heap.size + 2) (hi := wr.heap.size) ?_ (by omega) (by omega)
        (repeat (with_reducible refine Ints.set_ ?_ (by omega) _))
        exact HI9.out
set_option maxHeartbeats 4000000 in
theorem SReadUntil_any {A A' A2 : Option Addr} {n c n' c' n2 c2 : Nat} {D S R : List Int} {p q z bb N : Int} {w : World} {L L' B B' M C : Nat} (h : Ints w L B A n D) (h' : Ints w L' B' A' n' S) (g : Ints w M C A2 n2 R) (hB : B ≤ w.heap.size) (hB' : B' ≤ w.heap.size) (hC : C ≤ w.heap.size) (hnc : n ≤ c) :
    Calls Try.prog 24 #[.agg #[.slice (A) n c, .int .i64 (p), .slice (A') n' c', .int .i64 (q), .slice (A2) n2 c2, .int .i64 (z)], .int .i64 bb, .int .i64 N] w (Post3R (untilOut D p S q R z bb N) w) := by
  have HG := Lib.hid g.len
  have HL := Lib.hid h.len
  have HL' := Lib.hid h'.len
  have H1 : Hid (Ints ((w.alloc (.cells #[.slice (A) n c, .int .i64 (p), .slice (A') n' c', .int .i64 (q), .slice (A2) n2 c2, .int .i64 (z)] 27)).alloc (.cells #[.slice none 0 0, .int .i64 0, .slice none 0 0, .int .i64 0, .slice none 0 0, .int .i64 0] 27)) L B A n D) := (h.alloc hB _).alloc (by first | omega | (simp; omega) | (simp; done)) _
  have H2 : Hid (Ints ((w.alloc (.cells #[.slice (A) n c, .int .i64 (p), .slice (A') n' c', .int .i64 (q), .slice (A2) n2 c2, .int .i64 (z)] 27)).alloc (.cells #[.slice none 0 0, .int .i64 0, .slice none 0 0, .int .i64 0, .slice none 0 0, .int .i64 0] 27)) L' B' A' n' S) := (h'.alloc hB' _).alloc (by first | omega | (simp; omega) | (simp; done)) _
  have G1 : Hid (Ints ((w.alloc (.cells #[.slice (A) n c, .int .i64 (p), .slice (A') n' c', .int .i64 (q), .slice (A2) n2 c2, .int .i64 (z)] 27)).alloc (.cells #[.slice none 0 0, .int .i64 0, .slice none 0 0, .int .i64 0, .slice none 0 0, .int .i64 0] 27)) M C A2 n2 R) := (g.alloc hC _).alloc (by first | omega | (simp; omega) | (simp; done)) _
  have X0 : Hid (Box ((w.alloc (.cells #[.slice (A) n c, .int .i64 (p), .slice (A') n' c', .int .i64 (q), .slice (A2) n2 c2, .int .i64 (z)] 27)).alloc (.cells #[.slice none 0 0, .int .i64 0, .slice none 0 0, .int .i64 0, .slice none 0 0, .int .i64 0] 27)) w.heap.size [.slice (A) n c, .int .i64 (p), .slice (A') n' c', .int .i64 (q), .slice (A2) n2 c2, .int .i64 (z)]) := (Box.new w 27 [.slice (A) n c, .int .i64 (p), .slice (A') n' c', .int .i64 (q), .slice (A2) n2 c2, .int .i64 (z)]).alloc _
  have R0 : Hid (Box ((w.alloc (.cells #[.slice (A) n c, .int .i64 (p), .slice (A') n' c', .int .i64 (q), .slice (A2) n2 c2, .int .i64 (z)] 27)).alloc (.cells #[.slice none 0 0, .int .i64 0, .slice none 0 0, .int .i64 0, .slice none 0 0, .int .i64 0] 27)) (w.heap.size + 1) [.slice none 0 0, .int .i64 0, .slice none 0 0, .int .i64 0, .slice none 0 0, .int .i64 0]) := by
    have hx := Box.new (w.alloc (.cells #[.slice (A) n c, .int .i64 (p), .slice (A') n' c', .int .i64 (q), .slice (A2) n2 c2, .int .i64 (z)] 27)) 27 [.slice none 0 0, .int .i64 0, .slice none 0 0, .int .i64 0, .slice none 0 0, .int .i64 0]
    rw [World.size_alloc] at hx
    exact hx
  have E0 : Hid (Below w.heap.size w ((w.alloc (.cells #[.slice (A) n c, .int .i64 (p), .slice (A') n' c', .int .i64 (q), .slice (A2) n2 c2, .int .i64 (z)] 27)).alloc (.cells #[.slice none 0 0, .int .i64 0, .slice none 0 0, .int .i64 0, .slice none 0 0, .int .i64 0] 27))) := (by go_grown : Below w.heap.size w _)
  have s0 : (((w.alloc (.cells #[.slice (A) n c, .int .i64 (p), .slice (A') n' c', .int .i64 (q), .slice (A2) n2 c2, .int .i64 (z)] 27)).alloc (.cells #[.slice none 0 0, .int .i64 0, .slice none 0 0, .int .i64 0, .slice none 0 0, .int .i64 0] 27))).heap.size = w.heap.size + 2 := by simp
  clear h h' g
  go_enter Try.func24, Try.ntmps24
  go_wp2_with fail
  generalize ((w.alloc (.cells #[.slice (A) n c, .int .i64 (p), .slice (A') n' c', .int .i64 (q), .slice (A2) n2 c2, .int .i64 (z)] 27)).alloc (.cells #[.slice none 0 0, .int .i64 0, .slice none 0 0, .int .i64 0, .slice none 0 0, .int .i64 0] 27)) = w0 at *
  refine (sGoodReader_any H1.out H2.out G1.out (by omega) (by omega) (by omega)).mono ?_
  rintro e w1 ⟨rfl, hb1⟩
  have s1 := hb1.size
  have E1 := Lib.hid (below_step hb1 E0.out (by omega))
  have X1 := Lib.hid (X0.out.below hb1 (by omega))
  have R1 := Lib.hid (R0.out.below hb1 (by omega))
  have I1 := Lib.hid (H1.out.below hb1 (by omega))
  have I2 := Lib.hid (H2.out.below hb1 (by omega))
  have G2 := Lib.hid (G1.out.below hb1 (by omega))
  clear hb1 H1 H2 G1 X0 R0 E0
  cases hg : goodR D p S q R z
  · have HO : Hid (untilOut D p S q R z bb N = (Rv.zero, [], 5)) := by show _ = _; simp [untilOut, hg]
    clear hg
    have r0 := (R1.out.2 0 _ rfl).1; have r1 := (R1.out.2 1 _ rfl).1; have r2 := (R1.out.2 2 _ rfl).1; have r3 := (R1.out.2 3 _ rfl).1; have r4 := (R1.out.2 4 _ rfl).1; have r5 := (R1.out.2 5 _ rfl).1
    have g0 := (R1.out.2 0 _ rfl).2; have g1 := (R1.out.2 1 _ rfl).2; have g2 := (R1.out.2 2 _ rfl).2; have g3 := (R1.out.2 3 _ rfl).2; have g4 := (R1.out.2 4 _ rfl).2; have g5 := (R1.out.2 5 _ rfl).2
    go_wp2
    refine bodyPost_ret (v := .tuple #[.agg #[.slice none 0 0, .int .i64 0, .slice none 0 0, .int .i64 0, .slice none 0 0, .int .i64 0], .slice none 0 0, .int .i64 5]) (by simp [results, Try.results24, go_sem, r0, r1, r2, r3, r4, r5, g0, g1, g2, g3, g4, g5]) rfl ?_
    rw [HO.out]
    refine Post3R.zero ?_
    (repeat (with_reducible refine below_set ?_ (by omega) _))
    exact E1.out
  · obtain ⟨hvr, hq9⟩ := goodR_iff.1 hg
    cases hi0 : inB bb 0 255
    · have HO : Hid (untilOut D p S q R z bb N = (Rv.zero, [], 5)) := by show _ = _; simp [untilOut, hg, hi0]
      clear hg hvr
      have r0 := (R1.out.2 0 _ rfl).1; have r1 := (R1.out.2 1 _ rfl).1; have r2 := (R1.out.2 2 _ rfl).1; have r3 := (R1.out.2 3 _ rfl).1; have r4 := (R1.out.2 4 _ rfl).1; have r5 := (R1.out.2 5 _ rfl).1
      have g0 := (R1.out.2 0 _ rfl).2; have g1 := (R1.out.2 1 _ rfl).2; have g2 := (R1.out.2 2 _ rfl).2; have g3 := (R1.out.2 3 _ rfl).2; have g4 := (R1.out.2 4 _ rfl).2; have g5 := (R1.out.2 5 _ rfl).2
      go_wp2_with (go_at_call 43; refine (inRange_any).mono ?_; rintro e w' ⟨rfl, rfl⟩)
      refine bodyPost_ret (v := .tuple #[.agg #[.slice none 0 0, .int .i64 0, .slice none 0 0, .int .i64 0, .slice none 0 0, .int .i64 0], .slice none 0 0, .int .i64 5]) (by simp [results, Try.results24, go_sem, r0, r1, r2, r3, r4, r5, g0, g1, g2, g3, g4, g5]) rfl ?_
      rw [HO.out]
      refine Post3R.zero ?_
      (repeat (with_reducible refine below_set ?_ (by omega) _))
      exact E1.out
    · have hj0 := inB_iff.1 hi0
      cases hi1 : inB N 0 60
      · have HO : Hid (untilOut D p S q R z bb N = (Rv.zero, [], 5)) := by show _ = _; simp [untilOut, hg, hi0, hi1]
        clear hg hvr
        have r0 := (R1.out.2 0 _ rfl).1; have r1 := (R1.out.2 1 _ rfl).1; have r2 := (R1.out.2 2 _ rfl).1; have r3 := (R1.out.2 3 _ rfl).1; have r4 := (R1.out.2 4 _ rfl).1; have r5 := (R1.out.2 5 _ rfl).1
        have g0 := (R1.out.2 0 _ rfl).2; have g1 := (R1.out.2 1 _ rfl).2; have g2 := (R1.out.2 2 _ rfl).2; have g3 := (R1.out.2 3 _ rfl).2; have g4 := (R1.out.2 4 _ rfl).2; have g5 := (R1.out.2 5 _ rfl).2
        go_wp2_with (go_at_call 43; refine (inRange_any).mono ?_; rintro e w' ⟨rfl, rfl⟩)
        refine bodyPost_ret (v := .tuple #[.agg #[.slice none 0 0, .int .i64 0, .slice none 0 0, .int .i64 0, .slice none 0 0, .int .i64 0], .slice none 0 0, .int .i64 5]) (by simp [results, Try.results24, go_sem, r0, r1, r2, r3, r4, r5, g0, g1, g2, g3, g4, g5]) rfl ?_
        rw [HO.out]
        refine Post3R.zero ?_
        (repeat (with_reducible refine below_set ?_ (by omega) _))
        exact E1.out
      · have hj1 := inB_iff.1 hi1
        obtain ⟨hvd, hz, hRz, hah⟩ := validR_iff.1 hvr
        obtain ⟨hb, hs12, _, hp, hq⟩ := validD_iff.1 hvd
        have hn60 : n ≤ 60 := by rw [HL.out]; exact bytesB_le hb
        have hn12 : n' ≤ 12 := by rw [HL'.out]; exact hs12
        have hn16 : n2 ≤ 16 := by have := HG.out; omega
        obtain ⟨a, rfl⟩ := Int.eq_ofNat_of_zero_le hq.1
        have hK := start_ok hvr
        obtain ⟨N, rfl⟩ := Int.eq_ofNat_of_zero_le (show 0 ≤ N by omega)
        obtain ⟨T, hT⟩ : ∃ T, untilGo D S z N bb 62 p a R [] = T := ⟨_, rfl⟩
        have HO : Hid (untilOut D p S a R z bb N = rsOut D S z T) := by show _ = _; rw [← hT]; simp [untilOut, hg, hi0, hi1]
        have hinv := untilGo_inv (N := N) (bb := bb) hz.1 62 p a R [] hvd (by simpa using hK) (by simp; omega)
        rw [hT] at hinv
        have HI := Lib.hid (RsOk.v hinv)
        have HVD := Lib.hid hvd
        have HT := Lib.hid hT
        have HKK := Lib.hid hK
        clear hg hvr hb hs12 hah hT hvd hinv hK
        have x0 := (X1.out.2 0 _ rfl).1; have x1 := (X1.out.2 1 _ rfl).1; have x2 := (X1.out.2 2 _ rfl).1; have x3 := (X1.out.2 3 _ rfl).1; have x4 := (X1.out.2 4 _ rfl).1; have x5 := (X1.out.2 5 _ rfl).1
        go_wp2_with (first | (go_at_call 43; refine (inRange_any).mono ?_; rintro e w' ⟨rfl, rfl⟩) | fail)
        refine (sCopyReader_any I1.out I2.out G2.out (by omega) (by omega) (by omega) (by omega) (by omega) (by omega) (by unfold okInt; omega) (by unfold okInt; omega) (by unfold okInt; omega)).mono ?_
        rintro e w2 ⟨A3, n3, c3, A3', n3', c3', A4, n4, c4, rfl, ⟨hc3, hc3', hc4⟩, hb2, ⟨⟨h1, h2, ha, _, _⟩, h3, ha1, ha2, _⟩⟩
        have s2 := hb2.size
        have R2 := Lib.hid (R1.out.below hb2 (by omega))
        have E2 := Lib.hid (below_step hb2 E1.out (by omega))
        have D2 := Lib.hid h1
        have S2 := Lib.hid h2
        have B2 := Lib.hid h3
        have HA := Lib.hid (And.intro ha (And.intro ha1 ha2))
        clear hb2 h1 h2 h3 ha ha1 ha2 R1 E1 I1 I2 G2 X1
        clear x0 x1 x2 x3 x4 x5
        have hcall := sReadUntil0_any (N := N) (bb := bb) (c' := c3') D2.out S2.out B2.out (by omega) (by omega) (by omega) hc3 hc4 HVD.out (by omega) hz.1 (by omega) HKK.out (by omega)
        rw [HT.out] at hcall
        have HC := Lib.hid hcall
        clear hcall
        go_wp2_with fail
        refine HC.out.mono ?_
        rintro e w3 ⟨A6, n6, c6, A5, n5, c5, M', C', rfl, hc6, hc5, hb3, hi5, hC5, hor, hi6, hap⟩
        have s3 := hb3.size
        have R3 := Lib.hid (R2.out.below hb3 (by omega))
        have E3 := Lib.hid (below_step hb3 E2.out (by omega))
        have D3 := Lib.hid (D2.out.below hb3 (by omega))
        have S3 := Lib.hid (S2.out.below hb3 (by omega))
        have hlo5 : w1.heap.size ≤ M' := by
          rcases hor with ⟨_, _, rfl, _⟩ | h <;> omega
        have hap5 : Apart A5 n5 A3 n3 ∧ Apart A5 n5 A3' n3' := by
          rcases hor with ⟨rfl, rfl, _, _⟩ | h
          · exact HA.out.2
          · exact ⟨(Apart.of_le D3.out hi5 (by omega)).symm, (Apart.of_le S3.out hi5 (by omega)).symm⟩
        have hap6 : Apart A6 n6 A3 n3 ∧ Apart A6 n6 A3' n3' := ⟨(Apart.of_le D3.out hi6 (by omega)).symm, (Apart.of_le S3.out hi6 (by omega)).symm⟩
        have HI5 := Lib.hid (hi5.more hlo5 hC5)
        have HI6 := Lib.hid (hi6.more (lo' := w1.heap.size) (by omega) (Nat.le_refl _))
        have HP := Lib.hid (And.intro hap (And.intro hap5 hap6))
        clear hb3 hi5 hi6 hor hap hap5 hap6 HC R2 E2 D2 S2 B2
        have r0 := (R3.out.2 0 _ rfl).1; have r1 := (R3.out.2 1 _ rfl).1; have r2 := (R3.out.2 2 _ rfl).1; have r3 := (R3.out.2 3 _ rfl).1; have r4 := (R3.out.2 4 _ rfl).1; have r5 := (R3.out.2 5 _ rfl).1
        have g0 := (R3.out.2 0 _ rfl).2; have g1 := (R3.out.2 1 _ rfl).2; have g2 := (R3.out.2 2 _ rfl).2; have g3 := (R3.out.2 3 _ rfl).2; have g4 := (R3.out.2 4 _ rfl).2; have g5 := (R3.out.2 5 _ rfl).2
        go_wp2
        refine bodyPost_ret (v := .tuple #[.agg #[.slice (A3) n3 c3, .int .i64 (T.p), .slice (A3') n3' c3', .int .i64 ((T.a : Int)), .slice (A5) n5 c5, .int .i64 (z)], .slice A6 n6 c6, .int .i64 T.st]) (by simp [results, Try.results24, go_sem, r0, r1, r2, r3, r4, r5, g0, g1, g2, g3, g4, g5]) rfl ?_
        rw [HO.out]
        exact rs_post2 (lo := w1.heap.size) E3.out (by omega) (D3.out.more (Nat.le_refl _) (by omega)) (S3.out.more (Nat.le_refl _) (by omega)) HI5.out HI6.out HP.out.1 HP.out.2.2.1 HP.out.2.2.2 HA.out.1 HP.out.2.1.1 HP.out.2.1.2 HI.out hz hc3 hc3' hc5 hc6
theorem SReadUntil_x {A A' A2 : Option Addr} {n c n' c' n2 c2 : Nat} {D S R : List Int} {p q z bb N : Int} {w : World} {L L' B B' M C : Nat} (h : Ints w L B A n D) (h' : Ints w L' B' A' n' S) (g : Ints w M C A2 n2 R) (hB : B ≤ w.heap.size) (hB' : B' ≤ w.heap.size) (hC : C ≤ w.heap.size) (hc : n ≤ c) (_hc1 : n' ≤ c') (_hc2 : n2 ≤ c2) (_hn : n ≤ 1048576) (_hn1 : n' ≤ 1048576) (_hn2 : n2 ≤ 1048576) (_hbb : okInt bb) (_hN : okInt N) :
    Calls Try.prog 24 #[.agg #[.slice (A) n c, .int .i64 (p), .slice (A') n' c', .int .i64 (q), .slice (A2) n2 c2, .int .i64 (z)], .int .i64 bb, .int .i64 N] w (Post3R (untilOut D p S q R z bb N) w) := SReadUntil_any h h' g hB hB' hC hc
theorem ReadUntil_x {A A' A2 : Option Addr} {n c n' c' n2 c2 : Nat} {D S R : List Int} {p q z bb N : Int} {w : World} {L L' B B' M C : Nat} (h : Ints w L B A n D) (h' : Ints w L' B' A' n' S) (g : Ints w M C A2 n2 R) (hB : B ≤ w.heap.size) (hB' : B' ≤ w.heap.size) (hC : C ≤ w.heap.size) (hc : n ≤ c) (_hc1 : n' ≤ c') (_hc2 : n2 ≤ c2) (_hn : n ≤ 1048576) (_hn1 : n' ≤ 1048576) (_hn2 : n2 ≤ 1048576) (_hbb : okInt bb) (_hN : okInt N) :
    Calls Try.prog 23 #[.agg #[.slice (A) n c, .int .i64 (p), .slice (A') n' c', .int .i64 (q), .slice (A2) n2 c2, .int .i64 (z)], .int .i64 bb, .int .i64 N] w (Post3R (untilOut D p S q R z bb N) w) := ReadUntil_any h h' g hB hB' hC hc
end Go.Proofs.Ytmjmplfhedknhaa
