/- impl's madeOne: line ends made 10. -/
import Derived.Test.YtlekbmlacinkdaaN2
import Derived.Deep.DeepCutAuto
import Derived.Test.YtlekbmlacinkdaaApp2
namespace Go.Proofs.Ytlekbmlacinkdaa
open Go.ChangeShapes Go.WideShapes Go.ChangeAt Go.RowKit
set_option linter.unusedSimpArgs false
set_option linter.unusedVariables false
set_option maxRecDepth 100000

theorem own_lit {w : World} {base : Nat} (hb : base ≤ w.heap.size) (x : Int) : OwnI (w.alloc (.cells #[.int .i64 x] 3)) base (.slice (some ⟨w.heap.size, 0, none⟩) 1 1) 1 [x] :=
  World.ownsRow_lit w #[.int .i64 x] 1 hb (by unfold maxLen; omega) rfl
/-- A state of newlines and a list in new memory. -/
def NlPost (H : Bool) (S : Int) (R : List Int) (w : World) (e : Ending) (w' : World) : Prop :=
  ∃ A n c, e = .returned (.tuple #[.agg #[.bool H, .int .i64 S], .slice A n c]) ∧ n ≤ c ∧ Below w.heap.size w w' ∧ Ints w' w.heap.size w'.heap.size A n R
theorem nl_end {w w' : World} {base n c : Nat} {A : Option Addr} {R : List Int} {H : Bool} {S : Int} (hE : Below w.heap.size w w') (hO : OwnI w' base (.slice A n c) n R) (hb : w.heap.size ≤ base) (hok : ∀ x ∈ R, okInt x) :
    NlPost H S R w (.returned (.tuple #[.agg #[.bool H, .int .i64 S], .slice A n c])) w' := by
  obtain ⟨A1, c1, e, hc, hI⟩ := hO.ints hok
  injection e with e1 e2 e3
  subst e1 e3
  exact ⟨_, _, _, rfl, hc, hE, hI.more hb (Nat.le_refl _)⟩
theorem nl_held (f : Bool) (xs : List Int) (s : Int) : nlM f true xs = nlM f false (13 :: xs) ∧ nlS f true s xs = nlS f false s (13 :: xs) ∧ nlH true xs = nlH false (13 :: xs) := by
  simp [nlM, nlS, nlH, seen1]
set_option maxHeartbeats 8000000 in
theorem madeOne_free {A : Option Addr} {n c : Nat} {xs : List Int} {f : Bool} {s : Int} {w : World} {L B : Nat} (h : Ints w L B A n xs) (hB : B ≤ w.heap.size) (hnc : n ≤ c) (hn : n ≤ 1000) (h0 : 0 ≤ s) (h7 : s ≤ 7) :
    Calls Try.prog 43 #[.agg #[.bool false, .int .i64 s], .slice A n c, .bool f] w (NlPost (nlH false xs && !f) (nlS f false s xs) (nlM f false xs) w) := by
  obtain ⟨R, hR⟩ : ∃ R, nlM f false xs = R := ⟨_, rfl⟩
  obtain ⟨S, hS⟩ : ∃ S, nlS f false s xs = S := ⟨_, rfl⟩
  obtain ⟨T, hT⟩ : ∃ T, (nlH false xs && !f) = T := ⟨_, rfl⟩
  rw [hR, hS, hT]
  have X0 : Hid (Box ((w.alloc (.cells #[.bool false, .int .i64 s] 24)).alloc (.cells #[.bool false, .int .i64 0] 24)) w.heap.size [.bool false, .int .i64 s]) := (Box.new w 24 [.bool false, .int .i64 s]).alloc _
  have R0 : Hid (Box ((w.alloc (.cells #[.bool false, .int .i64 s] 24)).alloc (.cells #[.bool false, .int .i64 0] 24)) (w.heap.size + 1) [.bool false, .int .i64 0]) := by
    have hx := Box.new (w.alloc (.cells #[.bool false, .int .i64 s] 24)) 24 [.bool false, .int .i64 0]
    rw [World.size_alloc] at hx
    exact hx
  have I0 : Hid (Ints ((w.alloc (.cells #[.bool false, .int .i64 s] 24)).alloc (.cells #[.bool false, .int .i64 0] 24)) L B A n xs) := (h.alloc hB _).alloc (by first | omega | (simp; omega) | (simp; done)) _
  have E0 : Hid (Below w.heap.size w ((w.alloc (.cells #[.bool false, .int .i64 s] 24)).alloc (.cells #[.bool false, .int .i64 0] 24))) := (by go_grown : Below w.heap.size w _)
  have s0 : ((w.alloc (.cells #[.bool false, .int .i64 s] 24)).alloc (.cells #[.bool false, .int .i64 0] 24)).heap.size = w.heap.size + 2 := by simp
  have HOK := Lib.hid h.ok
  have hnl := h.len
  have HNL := Lib.hid hnl
  clear h hnl
  go_enter Try.func43, Try.ntmps43
  go_upto_region 1 with (fail)
  generalize ((w.alloc (.cells #[.bool false, .int .i64 s] 24)).alloc (.cells #[.bool false, .int .i64 0] 24)) = w0 at *
  have x0 := (X0.out.2 0 _ rfl).1
  · have HR := Lib.hid hR
    have HS := Lib.hid hS
    have HT := Lib.hid hT
    clear hR hS hT
    go_upto_region 3 with (fail)
    obtain ⟨w1, hw1⟩ : ∃ w1, w1 = w0 := ⟨_, rfl⟩
    rw [← hw1] at X0 R0 I0 E0 s0 ⊢
    clear hw1 x0
    have hs1 : w.heap.size + 2 ≤ w1.heap.size := by omega
    have hB1 : B ≤ w1.heap.size := by omega
    have hn1 : n ≤ 1001 := by omega
    clear hB hn s0
    have x1 := (X0.out.2 1 _ rfl).1
    have N1 := Lib.hid (Box.new w1 24 [.bool false, .int .i64 s])
    have X1 := Lib.hid (R0.out.alloc (.cells #[.bool false, .int .i64 s] 24))
    have E2 := Lib.hid (E0.out.alloc (by omega) (.cells #[.bool false, .int .i64 s] 24))
    have I3 := Lib.hid (I0.out.alloc hB1 (.cells #[.bool false, .int .i64 s] 24))
    have O1 : Hid (OwnI (w1.alloc (.cells #[.bool false, .int .i64 s] 24)) (w1.heap.size + 1) (.slice none 0 0) 0 []) := OwnI.nil_ _ _
    have s2 : (w1.alloc (.cells #[.bool false, .int .i64 s] 24)).heap.size = w1.heap.size + 1 := by simp
    go_upto_region 4 with (fail)
    generalize w1.alloc (.cells #[.bool false, .int .i64 s] 24) = w2 at *
    clear x1
    go_wp2
    go_loopw [1, 9] (fun l o wr => ∃ (A1 : Option Addr) (k1 c1 : Nat) (ys : List Int) (A2 : Option Addr) (k2 c2 : Nat) (zs : List Int) (s' : Int), l = .slice A1 k1 c1 ∧ o = .slice A2 k2 c2 ∧ k1 ≤ c1 ∧ k2 + k1 ≤ 1001 ∧ 0 ≤ s' ∧ s' ≤ 7 ∧ w1.heap.size + 1 ≤ wr.heap.size ∧ Hid (Ints wr L B A1 k1 ys) ∧ Hid (OwnI wr (w1.heap.size + 1) (.slice A2 k2 c2) k2 zs) ∧ Hid (∀ x ∈ zs, okInt x) ∧ Hid (Box wr (w.heap.size + 1) [.bool false, .int .i64 0]) ∧ Hid (Box wr w1.heap.size [.bool false, .int .i64 s']) ∧ Hid (Below w.heap.size w wr) ∧ Hid (NlSt f zs ys s' R S T)) (fun l _ _ => lenV l)
    case atStart => exact ⟨A, n, c, xs, none, 0, 0, [], s, rfl, rfl, hnc, by omega, h0, h7, by omega, I3, O1, (fun x hx => by cases hx), X1, N1, E2, ⟨HR.out, HS.out, HT.out⟩⟩
    case round =>
      clear N1 X1 E2 I3 O1 s2 HR HS HT h0 h7 hn1 hnc
      obtain ⟨A1, k1, c1, ys, A2, k2, c2, zs, s', rfl, rfl, hkc, hk21, h0, h7, hsz, HI, HO, HZ, HX, HN, HE, HS⟩ := hrel
      have hl1 := HI.out.len
      by_cases hk0 : k1 = 0
      · subst hk0
        obtain rfl : ys = [] := List.eq_nil_of_length_eq_zero hl1.symm
        clear hl1
        obtain ⟨rfl, rfl, rfl⟩ := nl_end0 HS.out
        have n0 := (HN.out.2 0 _ rfl).1; have n1 := (HN.out.2 1 _ rfl).1
        have y0 := (HX.out.2 0 _ rfl).1; have y1 := (HX.out.2 1 _ rfl).1; have z0 := (HX.out.2 0 _ rfl).2; have z1 := (HX.out.2 1 _ rfl).2
        go_wp2
        refine bodyPost_ret (v := .tuple #[.agg #[.bool false, .int .i64 S], .slice A2 k2 c2]) (by simp [results, Try.results43, go_sem, n0, n1, y0, y1, z0, z1]) rfl ?_
        refine nl_end (w := w) (base := w1.heap.size + 1) ?_ ?_ (by omega) HZ.out
        · (repeat (with_reducible refine below_set ?_ (by omega) _))
          exact HE.out
        · (repeat (with_reducible refine OwnI.set_ ?_ (by omega) _))
          exact HO.out
      · obtain ⟨b, o, x0, rfl, _, _, _⟩ := HI.out.at_ (k := 0) (by omega)
        obtain ⟨q1, q2, q3, _, _, _⟩ := nl_round f ys s'
        have q7 := feK_cases ys
        have hfe := firstEnd_any (c := c1) HI.out
        have more := nl_more HS.out
        have stop := nl_stop HS.out
        have wait := nl_wait HS.out
        have q2 := q2 (by intro e; subst e; exact hk0 hl1)
        rw [← hl1] at q1 q3
        obtain ⟨N, hN⟩ : ∃ N, feN ys = N := ⟨_, rfl⟩
        obtain ⟨K, hK⟩ : ∃ K, feK ys = K := ⟨_, rfl⟩
        rw [hN, hK] at q1 q2 more stop wait
        rw [hK] at q7 q3
        rw [hN] at q3
        rw [hN, hK] at hfe
        obtain ⟨M, hM⟩ : ∃ M, (endL K).length = M := ⟨_, rfl⟩
        rw [hM] at q1 q2 more wait
        have MORE := Lib.hid more; have STOP := Lib.hid stop; have WAIT := Lib.hid wait; have HL1 := Lib.hid hl1; have HFE := Lib.hid hfe; have Q7 := Lib.hid q7; have Q3 := Lib.hid q3
        have HM := Lib.hid hM
        clear more stop wait hl1 hN hK hfe hM q7 q3 HS
        go_wp2_with fail
        refine HFE.out.mono ?_
        rintro e w' ⟨rfl, rfl⟩
        have SRC := Lib.hid (HI.out.take (m := N) (by omega))
        go_wp2_with (at_builtin; refine wpList_append_ints rfl (.tmp 28) (.tmp 31) rfl (w1.heap.size + 1) (.slice A2 k2 c2) k2 zs rfl HO.out (some ⟨b, o, none⟩) N _ (ys.take N) rfl SRC.out (by omega) (by omega) ?_)
        intro v3 w3 ho3 hg3
        have e3 := below_grown HO.out hg3 hsz
        have s3 := e3.size
        have HOK3 : Hid (∀ x ∈ zs ++ ys.take N, okInt x) := fun x hx => by rcases List.mem_append.1 hx with h | h; (exact HZ.out x h); exact HI.out.ok x (List.mem_of_mem_take h)
        obtain ⟨A3, c3, rfl, hc3, _⟩ := ho3.ints HOK3.out
        have I3 := Lib.hid (HI.out.below e3 (by omega)); have HX3 := Lib.hid (HX.out.below e3 (by omega)); have HN3 := Lib.hid (HN.out.below e3 (by omega)); have HE3 : Hid (Below w.heap.size w w3) := below_step e3 HE.out (by omega); have HO3 := Lib.hid ho3
        clear ho3 hg3 e3 HI HX HN HE HO HZ SRC HFE
        go_wp2_with fail
        refine endBytes_any.mono ?_
        rintro e w4 ⟨A4, m4, c4, rfl, _, hb4, hi4⟩
        obtain rfl : m4 = M := hi4.len.trans HM.out
        have s4 := hb4.size
        have I4 := Lib.hid (I3.out.below hb4 (by omega)); have HX4 := Lib.hid (HX3.out.below hb4 (by omega)); have HN4 := Lib.hid (HN3.out.below hb4 (by omega)); have HE4 : Hid (Below w.heap.size w w4) := below_step hb4 HE3.out (by omega); have HO4 := Lib.hid (HO3.out.below hb4 (Nat.le_refl _))
        clear hb4 hi4 I3 HX3 HN3 HE3 HO3
        by_cases hr : N + m4 < k1
        · have hz : (((k1 - (N + m4) : Nat) : Int) == 0) = false := by simp; omega
          have hlt : N + m4 < ys.length := by have := HL1.out; omega
          have HLT := Lib.hid hlt
          clear hlt
          rcases Q7.out with rfl | rfl | rfl | rfl
          · exact absurd (Q3.out rfl) (by omega)
          · skip
            have HMORE := Lib.hid (MORE.out (by decide) (waits_rest HLT.out))
            have hor := or_i64 h0 h7 (k := 1) (by decide)
            obtain ⟨hor1, hor2, hor3⟩ := hor
            have hm4 : 1 ≤ m4 := by have := HM.out; simp [endL] at this; omega
            clear MORE STOP WAIT Q7 Q3 HM
            go_wp2_with (at_builtin; refine wpList_append_ints rfl (.tmp 54) (.tmp 55) rfl (w1.heap.size + 1) (.slice A3 (k2 + N) c3) (k2 + N) (zs ++ ys.take N) rfl (HO4.out.alloc _) (some ⟨w4.heap.size, 0, none⟩) 1 1 [10] rfl (lit1 w4 10 ok10) (by omega) (by simp; omega) ?_)
            intro v5 w5 ho5 hg5
            have ho5 : OwnI w5 (w1.heap.size + 1) v5 (k2 + N + 1) (zs ++ ys.take N ++ [10]) := by rw [List.append_assoc]; simpa using ho5
            have e5 := below_grown (HO4.out.alloc (.cells #[.int .i64 10] 3)) hg5 (by simp; omega)
            have HOK5 : Hid (∀ x ∈ zs ++ ys.take N ++ [10], okInt x) := fun x hx => by rcases List.mem_append.1 hx with h | h; (exact HOK3.out x h); (simp at h; subst h; exact ok10)
            obtain ⟨A5, c5, rfl, hc5, _⟩ := ho5.ints HOK5.out
            have s5 : w4.heap.size + 1 ≤ w5.heap.size := by have := e5.size; simp at this; omega
            have I5 := Lib.hid ((I4.out.alloc (by omega) (.cells #[.int .i64 10] 3)).below e5 (by omega)); have HX5 := Lib.hid ((HX4.out.alloc (.cells #[.int .i64 10] 3)).below e5 (by omega)); have HN5 := Lib.hid ((HN4.out.alloc (.cells #[.int .i64 10] 3)).below e5 (by omega)); have HE5 : Hid (Below w.heap.size w w5) := below_step e5 (HE4.out.alloc (by omega) _) (by omega); have HO5 := Lib.hid ho5
            clear ho5 hg5 e5 I4 HX4 HN4 HE4 HO4
            have n1 := (HN5.out.2 1 _ rfl).1; have z1 := (HN5.out.2 1 _ rfl).2
            go_wp2
            clear n1 z1
            go_roundw
            case rel =>
              refine ⟨_, _, _, ys.drop (N + m4), A5, _, c5, zs ++ ys.take N ++ [10], orM s' 1, rfl, rfl, by omega, by omega, hor2, hor3, by simp; omega, ?_, ?_, HOK5, ?_, ?_, ?_, HMORE⟩
              · show Ints _ _ _ _ _ _
                (repeat (with_reducible refine Ints.set_ ?_ (by omega) _))
                rw [← add_plain]
                exact I5.out.drop (by omega)
              · show OwnI _ _ _ _ _
                refine OwnI.set_ ?_ (by omega) _
                exact HO5.out
              · show Box _ _ _
                (repeat (with_reducible refine Box.set_ ?_ (by omega) _))
                exact HX5.out
              · show Box _ _ _
                have hx := HN5.out.put (i := 1) (by simp) (.int .i64 (orM s' 1))
                simpa using hx
              · show Below _ _ _
                (repeat (with_reducible refine below_set ?_ (by omega) _))
                exact HE5.out
            case measure => simp [lenV]; omega
          · skip
            have HMORE := Lib.hid (MORE.out (by decide) (waits_rest HLT.out))
            have hor := or_i64 h0 h7 (k := 2) (by decide)
            obtain ⟨hor1, hor2, hor3⟩ := hor
            have hm4 : 1 ≤ m4 := by have := HM.out; simp [endL] at this; omega
            clear MORE STOP WAIT Q7 Q3 HM
            go_wp2_with (at_builtin; refine wpList_append_ints rfl (.tmp 54) (.tmp 55) rfl (w1.heap.size + 1) (.slice A3 (k2 + N) c3) (k2 + N) (zs ++ ys.take N) rfl (HO4.out.alloc _) (some ⟨w4.heap.size, 0, none⟩) 1 1 [10] rfl (lit1 w4 10 ok10) (by omega) (by simp; omega) ?_)
            intro v5 w5 ho5 hg5
            have ho5 : OwnI w5 (w1.heap.size + 1) v5 (k2 + N + 1) (zs ++ ys.take N ++ [10]) := by rw [List.append_assoc]; simpa using ho5
            have e5 := below_grown (HO4.out.alloc (.cells #[.int .i64 10] 3)) hg5 (by simp; omega)
            have HOK5 : Hid (∀ x ∈ zs ++ ys.take N ++ [10], okInt x) := fun x hx => by rcases List.mem_append.1 hx with h | h; (exact HOK3.out x h); (simp at h; subst h; exact ok10)
            obtain ⟨A5, c5, rfl, hc5, _⟩ := ho5.ints HOK5.out
            have s5 : w4.heap.size + 1 ≤ w5.heap.size := by have := e5.size; simp at this; omega
            have I5 := Lib.hid ((I4.out.alloc (by omega) (.cells #[.int .i64 10] 3)).below e5 (by omega)); have HX5 := Lib.hid ((HX4.out.alloc (.cells #[.int .i64 10] 3)).below e5 (by omega)); have HN5 := Lib.hid ((HN4.out.alloc (.cells #[.int .i64 10] 3)).below e5 (by omega)); have HE5 : Hid (Below w.heap.size w w5) := below_step e5 (HE4.out.alloc (by omega) _) (by omega); have HO5 := Lib.hid ho5
            clear ho5 hg5 e5 I4 HX4 HN4 HE4 HO4
            have n1 := (HN5.out.2 1 _ rfl).1; have z1 := (HN5.out.2 1 _ rfl).2
            go_wp2
            clear n1 z1
            go_roundw
            case rel =>
              refine ⟨_, _, _, ys.drop (N + m4), A5, _, c5, zs ++ ys.take N ++ [10], orM s' 2, rfl, rfl, by omega, by omega, hor2, hor3, by simp; omega, ?_, ?_, HOK5, ?_, ?_, ?_, HMORE⟩
              · show Ints _ _ _ _ _ _
                (repeat (with_reducible refine Ints.set_ ?_ (by omega) _))
                rw [← add_plain]
                exact I5.out.drop (by omega)
              · show OwnI _ _ _ _ _
                refine OwnI.set_ ?_ (by omega) _
                exact HO5.out
              · show Box _ _ _
                (repeat (with_reducible refine Box.set_ ?_ (by omega) _))
                exact HX5.out
              · show Box _ _ _
                have hx := HN5.out.put (i := 1) (by simp) (.int .i64 (orM s' 2))
                simpa using hx
              · show Below _ _ _
                (repeat (with_reducible refine below_set ?_ (by omega) _))
                exact HE5.out
            case measure => simp [lenV]; omega
          · skip
            have HMORE := Lib.hid (MORE.out (by decide) (waits_rest HLT.out))
            have hor := or_i64 h0 h7 (k := 4) (by decide)
            obtain ⟨hor1, hor2, hor3⟩ := hor
            have hm4 : 1 ≤ m4 := by have := HM.out; simp [endL] at this; omega
            clear MORE STOP WAIT Q7 Q3 HM
            go_wp2_with (at_builtin; refine wpList_append_ints rfl (.tmp 54) (.tmp 55) rfl (w1.heap.size + 1) (.slice A3 (k2 + N) c3) (k2 + N) (zs ++ ys.take N) rfl (HO4.out.alloc _) (some ⟨w4.heap.size, 0, none⟩) 1 1 [10] rfl (lit1 w4 10 ok10) (by omega) (by simp; omega) ?_)
            intro v5 w5 ho5 hg5
            have ho5 : OwnI w5 (w1.heap.size + 1) v5 (k2 + N + 1) (zs ++ ys.take N ++ [10]) := by rw [List.append_assoc]; simpa using ho5
            have e5 := below_grown (HO4.out.alloc (.cells #[.int .i64 10] 3)) hg5 (by simp; omega)
            have HOK5 : Hid (∀ x ∈ zs ++ ys.take N ++ [10], okInt x) := fun x hx => by rcases List.mem_append.1 hx with h | h; (exact HOK3.out x h); (simp at h; subst h; exact ok10)
            obtain ⟨A5, c5, rfl, hc5, _⟩ := ho5.ints HOK5.out
            have s5 : w4.heap.size + 1 ≤ w5.heap.size := by have := e5.size; simp at this; omega
            have I5 := Lib.hid ((I4.out.alloc (by omega) (.cells #[.int .i64 10] 3)).below e5 (by omega)); have HX5 := Lib.hid ((HX4.out.alloc (.cells #[.int .i64 10] 3)).below e5 (by omega)); have HN5 := Lib.hid ((HN4.out.alloc (.cells #[.int .i64 10] 3)).below e5 (by omega)); have HE5 : Hid (Below w.heap.size w w5) := below_step e5 (HE4.out.alloc (by omega) _) (by omega); have HO5 := Lib.hid ho5
            clear ho5 hg5 e5 I4 HX4 HN4 HE4 HO4
            have n1 := (HN5.out.2 1 _ rfl).1; have z1 := (HN5.out.2 1 _ rfl).2
            go_wp2
            clear n1 z1
            go_roundw
            case rel =>
              refine ⟨_, _, _, ys.drop (N + m4), A5, _, c5, zs ++ ys.take N ++ [10], orM s' 4, rfl, rfl, by omega, by omega, hor2, hor3, by simp; omega, ?_, ?_, HOK5, ?_, ?_, ?_, HMORE⟩
              · show Ints _ _ _ _ _ _
                (repeat (with_reducible refine Ints.set_ ?_ (by omega) _))
                rw [← add_plain]
                exact I5.out.drop (by omega)
              · show OwnI _ _ _ _ _
                refine OwnI.set_ ?_ (by omega) _
                exact HO5.out
              · show Box _ _ _
                (repeat (with_reducible refine Box.set_ ?_ (by omega) _))
                exact HX5.out
              · show Box _ _ _
                have hx := HN5.out.put (i := 1) (by simp) (.int .i64 (orM s' 4))
                simpa using hx
              · show Below _ _ _
                (repeat (with_reducible refine below_set ?_ (by omega) _))
                exact HE5.out
            case measure => simp [lenV]; omega
        · obtain rfl : k1 = N + m4 := by omega
          have hd : ys.drop (N + m4) = [] := List.drop_of_length_le (by have := HL1.out; omega)
          have MORE : Hid (¬ K = 0 → waits K (ys.drop (N + m4)) f = false → NlSt f (zs ++ ys.take N ++ [10]) [] (orM s' K) R S T) := fun h1 h2 => by have := MORE.out h1 h2; rw [hd] at this; exact this
          clear hd
          by_cases hcap : c1 = N + m4
          · subst hcap
            rcases Q7.out with rfl | rfl | rfl | rfl
            · skip
              have HSTOP := Lib.hid (STOP.out rfl)
              clear MORE STOP WAIT Q7 Q3 HM
              go_wp2
              go_roundw
              case rel => exact ⟨_, _, _, [], A3, _, c3, zs ++ ys.take N, s', rfl, rfl, by omega, by omega, h0, h7, by omega, (by show Ints _ _ _ _ _ _; rw [Nat.sub_self]; exact (Ints.nil _ _ _ 0 _).1), HO4, HOK3, HX4, HN4, HE4, HSTOP⟩
              case measure => simp [lenV]; omega
            · cases f
              · skip
                obtain ⟨rfl, rfl, rfl⟩ := WAIT.out (waits_yes (by have := HL1.out; omega))
                clear MORE STOP WAIT Q7 Q3 HM
                have z0 := (HN4.out.2 0 _ rfl).1; have z1 := (HN4.out.2 0 _ rfl).2
                go_upto_region 14 with (fail)
                have HN5 : Hid (Box (w4.setCell ⟨w1.heap.size, 0, none⟩ (.bool true)) w1.heap.size [.bool true, .int .i64 S]) := by show Box _ _ _; have hx := HN4.out.put (i := 0) (by simp) (.bool true); simpa using hx
                have HX5 : Hid (Box (w4.setCell ⟨w1.heap.size, 0, none⟩ (.bool true)) (w.heap.size + 1) [.bool false, .int .i64 0]) := by show Box _ _ _; (repeat (with_reducible refine Box.set_ ?_ (by omega) _)); exact HX4.out
                have HO5 : Hid (OwnI (w4.setCell ⟨w1.heap.size, 0, none⟩ (.bool true)) (w1.heap.size + 1) (.slice A3 (k2 + N) c3) (k2 + N) (zs ++ ys.take N)) := HO4.out.set_ (by omega) _
                have HE5 : Hid (Below w.heap.size w (w4.setCell ⟨w1.heap.size, 0, none⟩ (.bool true))) := by show Below _ _ _; (repeat (with_reducible refine below_set ?_ (by omega) _)); exact HE4.out
                clear z0 z1 HN4 HX4 HO4 HE4 I4
                generalize w4.setCell ⟨w1.heap.size, 0, none⟩ (.bool true) = w5 at *
                have n0 := (HN5.out.2 0 _ rfl).1; have n1 := (HN5.out.2 1 _ rfl).1; have y0 := (HX5.out.2 0 _ rfl).1; have y1 := (HX5.out.2 1 _ rfl).1; have f0 := (HX5.out.2 0 _ rfl).2; have f1 := (HX5.out.2 1 _ rfl).2
                go_wp2
                refine bodyPost_ret (v := .tuple #[.agg #[.bool true, .int .i64 S], .slice A3 (k2 + N) c3]) (by simp [results, Try.results43, go_sem, n0, n1, y0, y1, f0, f1]) rfl ?_
                refine nl_end (w := w) (base := w1.heap.size + 1) ?_ ?_ (by omega) HOK3.out
                · (repeat (with_reducible refine below_set ?_ (by omega) _))
                  exact HE5.out
                · (repeat (with_reducible refine OwnI.set_ ?_ (by omega) _))
                  exact HO5.out
              · skip
                have HMORE := Lib.hid (MORE.out (by decide) waits_fin)
                have hor := or_i64 h0 h7 (k := 1) (by decide)
                obtain ⟨hor1, hor2, hor3⟩ := hor
                have hm4 : 1 ≤ m4 := by have := HM.out; simp [endL] at this; omega
                clear MORE STOP WAIT Q7 Q3 HM
                go_wp2_with (at_builtin; refine wpList_append_ints rfl (.tmp 54) (.tmp 55) rfl (w1.heap.size + 1) (.slice A3 (k2 + N) c3) (k2 + N) (zs ++ ys.take N) rfl (HO4.out.alloc _) (some ⟨w4.heap.size, 0, none⟩) 1 1 [10] rfl (lit1 w4 10 ok10) (by omega) (by simp; omega) ?_)
                intro v5 w5 ho5 hg5
                have ho5 : OwnI w5 (w1.heap.size + 1) v5 (k2 + N + 1) (zs ++ ys.take N ++ [10]) := by rw [List.append_assoc]; simpa using ho5
                have e5 := below_grown (HO4.out.alloc (.cells #[.int .i64 10] 3)) hg5 (by simp; omega)
                have HOK5 : Hid (∀ x ∈ zs ++ ys.take N ++ [10], okInt x) := fun x hx => by rcases List.mem_append.1 hx with h | h; (exact HOK3.out x h); (simp at h; subst h; exact ok10)
                obtain ⟨A5, c5, rfl, hc5, _⟩ := ho5.ints HOK5.out
                have s5 : w4.heap.size + 1 ≤ w5.heap.size := by have := e5.size; simp at this; omega
                have I5 := Lib.hid ((I4.out.alloc (by omega) (.cells #[.int .i64 10] 3)).below e5 (by omega)); have HX5 := Lib.hid ((HX4.out.alloc (.cells #[.int .i64 10] 3)).below e5 (by omega)); have HN5 := Lib.hid ((HN4.out.alloc (.cells #[.int .i64 10] 3)).below e5 (by omega)); have HE5 : Hid (Below w.heap.size w w5) := below_step e5 (HE4.out.alloc (by omega) _) (by omega); have HO5 := Lib.hid ho5
                clear ho5 hg5 e5 I4 HX4 HN4 HE4 HO4
                have n1 := (HN5.out.2 1 _ rfl).1; have z1 := (HN5.out.2 1 _ rfl).2
                go_wp2
                clear n1 z1
                go_roundw
                case rel =>
                  refine ⟨_, _, _, [], A5, _, c5, zs ++ ys.take N ++ [10], orM s' 1, rfl, rfl, by omega, by omega, hor2, hor3, by simp; omega, ?_, ?_, HOK5, ?_, ?_, ?_, HMORE⟩
                  · show Ints _ _ _ _ _ _
                    (try rw [Nat.sub_self])
                    exact (Ints.nil _ _ _ 0 _).1
                  · show OwnI _ _ _ _ _
                    refine OwnI.set_ ?_ (by omega) _
                    exact HO5.out
                  · show Box _ _ _
                    (repeat (with_reducible refine Box.set_ ?_ (by omega) _))
                    exact HX5.out
                  · show Box _ _ _
                    have hx := HN5.out.put (i := 1) (by simp) (.int .i64 (orM s' 1))
                    simpa using hx
                  · show Below _ _ _
                    (repeat (with_reducible refine below_set ?_ (by omega) _))
                    exact HE5.out
                case measure => simp [lenV]; omega
            · skip
              have HMORE := Lib.hid (MORE.out (by decide) (waits_ne (by decide)))
              have hor := or_i64 h0 h7 (k := 2) (by decide)
              obtain ⟨hor1, hor2, hor3⟩ := hor
              have hm4 : 1 ≤ m4 := by have := HM.out; simp [endL] at this; omega
              clear MORE STOP WAIT Q7 Q3 HM
              go_wp2_with (at_builtin; refine wpList_append_ints rfl (.tmp 54) (.tmp 55) rfl (w1.heap.size + 1) (.slice A3 (k2 + N) c3) (k2 + N) (zs ++ ys.take N) rfl (HO4.out.alloc _) (some ⟨w4.heap.size, 0, none⟩) 1 1 [10] rfl (lit1 w4 10 ok10) (by omega) (by simp; omega) ?_)
              intro v5 w5 ho5 hg5
              have ho5 : OwnI w5 (w1.heap.size + 1) v5 (k2 + N + 1) (zs ++ ys.take N ++ [10]) := by rw [List.append_assoc]; simpa using ho5
              have e5 := below_grown (HO4.out.alloc (.cells #[.int .i64 10] 3)) hg5 (by simp; omega)
              have HOK5 : Hid (∀ x ∈ zs ++ ys.take N ++ [10], okInt x) := fun x hx => by rcases List.mem_append.1 hx with h | h; (exact HOK3.out x h); (simp at h; subst h; exact ok10)
              obtain ⟨A5, c5, rfl, hc5, _⟩ := ho5.ints HOK5.out
              have s5 : w4.heap.size + 1 ≤ w5.heap.size := by have := e5.size; simp at this; omega
              have I5 := Lib.hid ((I4.out.alloc (by omega) (.cells #[.int .i64 10] 3)).below e5 (by omega)); have HX5 := Lib.hid ((HX4.out.alloc (.cells #[.int .i64 10] 3)).below e5 (by omega)); have HN5 := Lib.hid ((HN4.out.alloc (.cells #[.int .i64 10] 3)).below e5 (by omega)); have HE5 : Hid (Below w.heap.size w w5) := below_step e5 (HE4.out.alloc (by omega) _) (by omega); have HO5 := Lib.hid ho5
              clear ho5 hg5 e5 I4 HX4 HN4 HE4 HO4
              have n1 := (HN5.out.2 1 _ rfl).1; have z1 := (HN5.out.2 1 _ rfl).2
              go_wp2
              clear n1 z1
              go_roundw
              case rel =>
                refine ⟨_, _, _, [], A5, _, c5, zs ++ ys.take N ++ [10], orM s' 2, rfl, rfl, by omega, by omega, hor2, hor3, by simp; omega, ?_, ?_, HOK5, ?_, ?_, ?_, HMORE⟩
                · show Ints _ _ _ _ _ _
                  (try rw [Nat.sub_self])
                  exact (Ints.nil _ _ _ 0 _).1
                · show OwnI _ _ _ _ _
                  refine OwnI.set_ ?_ (by omega) _
                  exact HO5.out
                · show Box _ _ _
                  (repeat (with_reducible refine Box.set_ ?_ (by omega) _))
                  exact HX5.out
                · show Box _ _ _
                  have hx := HN5.out.put (i := 1) (by simp) (.int .i64 (orM s' 2))
                  simpa using hx
                · show Below _ _ _
                  (repeat (with_reducible refine below_set ?_ (by omega) _))
                  exact HE5.out
              case measure => simp [lenV]; omega
            · skip
              have HMORE := Lib.hid (MORE.out (by decide) (waits_ne (by decide)))
              have hor := or_i64 h0 h7 (k := 4) (by decide)
              obtain ⟨hor1, hor2, hor3⟩ := hor
              have hm4 : 1 ≤ m4 := by have := HM.out; simp [endL] at this; omega
              clear MORE STOP WAIT Q7 Q3 HM
              go_wp2_with (at_builtin; refine wpList_append_ints rfl (.tmp 54) (.tmp 55) rfl (w1.heap.size + 1) (.slice A3 (k2 + N) c3) (k2 + N) (zs ++ ys.take N) rfl (HO4.out.alloc _) (some ⟨w4.heap.size, 0, none⟩) 1 1 [10] rfl (lit1 w4 10 ok10) (by omega) (by simp; omega) ?_)
              intro v5 w5 ho5 hg5
              have ho5 : OwnI w5 (w1.heap.size + 1) v5 (k2 + N + 1) (zs ++ ys.take N ++ [10]) := by rw [List.append_assoc]; simpa using ho5
              have e5 := below_grown (HO4.out.alloc (.cells #[.int .i64 10] 3)) hg5 (by simp; omega)
              have HOK5 : Hid (∀ x ∈ zs ++ ys.take N ++ [10], okInt x) := fun x hx => by rcases List.mem_append.1 hx with h | h; (exact HOK3.out x h); (simp at h; subst h; exact ok10)
              obtain ⟨A5, c5, rfl, hc5, _⟩ := ho5.ints HOK5.out
              have s5 : w4.heap.size + 1 ≤ w5.heap.size := by have := e5.size; simp at this; omega
              have I5 := Lib.hid ((I4.out.alloc (by omega) (.cells #[.int .i64 10] 3)).below e5 (by omega)); have HX5 := Lib.hid ((HX4.out.alloc (.cells #[.int .i64 10] 3)).below e5 (by omega)); have HN5 := Lib.hid ((HN4.out.alloc (.cells #[.int .i64 10] 3)).below e5 (by omega)); have HE5 : Hid (Below w.heap.size w w5) := below_step e5 (HE4.out.alloc (by omega) _) (by omega); have HO5 := Lib.hid ho5
              clear ho5 hg5 e5 I4 HX4 HN4 HE4 HO4
              have n1 := (HN5.out.2 1 _ rfl).1; have z1 := (HN5.out.2 1 _ rfl).2
              go_wp2
              clear n1 z1
              go_roundw
              case rel =>
                refine ⟨_, _, _, [], A5, _, c5, zs ++ ys.take N ++ [10], orM s' 4, rfl, rfl, by omega, by omega, hor2, hor3, by simp; omega, ?_, ?_, HOK5, ?_, ?_, ?_, HMORE⟩
                · show Ints _ _ _ _ _ _
                  (try rw [Nat.sub_self])
                  exact (Ints.nil _ _ _ 0 _).1
                · show OwnI _ _ _ _ _
                  refine OwnI.set_ ?_ (by omega) _
                  exact HO5.out
                · show Box _ _ _
                  (repeat (with_reducible refine Box.set_ ?_ (by omega) _))
                  exact HX5.out
                · show Box _ _ _
                  have hx := HN5.out.put (i := 1) (by simp) (.int .i64 (orM s' 4))
                  simpa using hx
                · show Below _ _ _
                  (repeat (with_reducible refine below_set ?_ (by omega) _))
                  exact HE5.out
              case measure => simp [lenV]; omega
          · have hcl : N + m4 < c1 := by omega
            rcases Q7.out with rfl | rfl | rfl | rfl
            · skip
              have HSTOP := Lib.hid (STOP.out rfl)
              clear MORE STOP WAIT Q7 Q3 HM
              go_wp2
              go_roundw
              case rel => exact ⟨_, _, _, [], A3, _, c3, zs ++ ys.take N, s', rfl, rfl, by omega, by omega, h0, h7, by omega, (by show Ints _ _ _ _ _ _; rw [Nat.sub_self]; exact (Ints.nil _ _ _ 0 _).1), HO4, HOK3, HX4, HN4, HE4, HSTOP⟩
              case measure => simp [lenV]; omega
            · cases f
              · skip
                obtain ⟨rfl, rfl, rfl⟩ := WAIT.out (waits_yes (by have := HL1.out; omega))
                clear MORE STOP WAIT Q7 Q3 HM
                have z0 := (HN4.out.2 0 _ rfl).1; have z1 := (HN4.out.2 0 _ rfl).2
                go_upto_region 14 with (fail)
                have HN5 : Hid (Box (w4.setCell ⟨w1.heap.size, 0, none⟩ (.bool true)) w1.heap.size [.bool true, .int .i64 S]) := by show Box _ _ _; have hx := HN4.out.put (i := 0) (by simp) (.bool true); simpa using hx
                have HX5 : Hid (Box (w4.setCell ⟨w1.heap.size, 0, none⟩ (.bool true)) (w.heap.size + 1) [.bool false, .int .i64 0]) := by show Box _ _ _; (repeat (with_reducible refine Box.set_ ?_ (by omega) _)); exact HX4.out
                have HO5 : Hid (OwnI (w4.setCell ⟨w1.heap.size, 0, none⟩ (.bool true)) (w1.heap.size + 1) (.slice A3 (k2 + N) c3) (k2 + N) (zs ++ ys.take N)) := HO4.out.set_ (by omega) _
                have HE5 : Hid (Below w.heap.size w (w4.setCell ⟨w1.heap.size, 0, none⟩ (.bool true))) := by show Below _ _ _; (repeat (with_reducible refine below_set ?_ (by omega) _)); exact HE4.out
                clear z0 z1 HN4 HX4 HO4 HE4 I4
                generalize w4.setCell ⟨w1.heap.size, 0, none⟩ (.bool true) = w5 at *
                have n0 := (HN5.out.2 0 _ rfl).1; have n1 := (HN5.out.2 1 _ rfl).1; have y0 := (HX5.out.2 0 _ rfl).1; have y1 := (HX5.out.2 1 _ rfl).1; have f0 := (HX5.out.2 0 _ rfl).2; have f1 := (HX5.out.2 1 _ rfl).2
                go_wp2
                refine bodyPost_ret (v := .tuple #[.agg #[.bool true, .int .i64 S], .slice A3 (k2 + N) c3]) (by simp [results, Try.results43, go_sem, n0, n1, y0, y1, f0, f1]) rfl ?_
                refine nl_end (w := w) (base := w1.heap.size + 1) ?_ ?_ (by omega) HOK3.out
                · (repeat (with_reducible refine below_set ?_ (by omega) _))
                  exact HE5.out
                · (repeat (with_reducible refine OwnI.set_ ?_ (by omega) _))
                  exact HO5.out
              · skip
                have HMORE := Lib.hid (MORE.out (by decide) waits_fin)
                have hor := or_i64 h0 h7 (k := 1) (by decide)
                obtain ⟨hor1, hor2, hor3⟩ := hor
                have hm4 : 1 ≤ m4 := by have := HM.out; simp [endL] at this; omega
                clear MORE STOP WAIT Q7 Q3 HM
                go_wp2_with (at_builtin; refine wpList_append_ints rfl (.tmp 54) (.tmp 55) rfl (w1.heap.size + 1) (.slice A3 (k2 + N) c3) (k2 + N) (zs ++ ys.take N) rfl (HO4.out.alloc _) (some ⟨w4.heap.size, 0, none⟩) 1 1 [10] rfl (lit1 w4 10 ok10) (by omega) (by simp; omega) ?_)
                intro v5 w5 ho5 hg5
                have ho5 : OwnI w5 (w1.heap.size + 1) v5 (k2 + N + 1) (zs ++ ys.take N ++ [10]) := by rw [List.append_assoc]; simpa using ho5
                have e5 := below_grown (HO4.out.alloc (.cells #[.int .i64 10] 3)) hg5 (by simp; omega)
                have HOK5 : Hid (∀ x ∈ zs ++ ys.take N ++ [10], okInt x) := fun x hx => by rcases List.mem_append.1 hx with h | h; (exact HOK3.out x h); (simp at h; subst h; exact ok10)
                obtain ⟨A5, c5, rfl, hc5, _⟩ := ho5.ints HOK5.out
                have s5 : w4.heap.size + 1 ≤ w5.heap.size := by have := e5.size; simp at this; omega
                have I5 := Lib.hid ((I4.out.alloc (by omega) (.cells #[.int .i64 10] 3)).below e5 (by omega)); have HX5 := Lib.hid ((HX4.out.alloc (.cells #[.int .i64 10] 3)).below e5 (by omega)); have HN5 := Lib.hid ((HN4.out.alloc (.cells #[.int .i64 10] 3)).below e5 (by omega)); have HE5 : Hid (Below w.heap.size w w5) := below_step e5 (HE4.out.alloc (by omega) _) (by omega); have HO5 := Lib.hid ho5
                clear ho5 hg5 e5 I4 HX4 HN4 HE4 HO4
                have n1 := (HN5.out.2 1 _ rfl).1; have z1 := (HN5.out.2 1 _ rfl).2
                go_wp2
                clear n1 z1
                go_roundw
                case rel =>
                  refine ⟨_, _, _, [], A5, _, c5, zs ++ ys.take N ++ [10], orM s' 1, rfl, rfl, by omega, by omega, hor2, hor3, by simp; omega, ?_, ?_, HOK5, ?_, ?_, ?_, HMORE⟩
                  · show Ints _ _ _ _ _ _
                    (try rw [Nat.sub_self])
                    exact (Ints.nil _ _ _ 0 _).1
                  · show OwnI _ _ _ _ _
                    refine OwnI.set_ ?_ (by omega) _
                    exact HO5.out
                  · show Box _ _ _
                    (repeat (with_reducible refine Box.set_ ?_ (by omega) _))
                    exact HX5.out
                  · show Box _ _ _
                    have hx := HN5.out.put (i := 1) (by simp) (.int .i64 (orM s' 1))
                    simpa using hx
                  · show Below _ _ _
                    (repeat (with_reducible refine below_set ?_ (by omega) _))
                    exact HE5.out
                case measure => simp [lenV]; omega
            · skip
              have HMORE := Lib.hid (MORE.out (by decide) (waits_ne (by decide)))
              have hor := or_i64 h0 h7 (k := 2) (by decide)
              obtain ⟨hor1, hor2, hor3⟩ := hor
              have hm4 : 1 ≤ m4 := by have := HM.out; simp [endL] at this; omega
              clear MORE STOP WAIT Q7 Q3 HM
              go_wp2_with (at_builtin; refine wpList_append_ints rfl (.tmp 54) (.tmp 55) rfl (w1.heap.size + 1) (.slice A3 (k2 + N) c3) (k2 + N) (zs ++ ys.take N) rfl (HO4.out.alloc _) (some ⟨w4.heap.size, 0, none⟩) 1 1 [10] rfl (lit1 w4 10 ok10) (by omega) (by simp; omega) ?_)
              intro v5 w5 ho5 hg5
              have ho5 : OwnI w5 (w1.heap.size + 1) v5 (k2 + N + 1) (zs ++ ys.take N ++ [10]) := by rw [List.append_assoc]; simpa using ho5
              have e5 := below_grown (HO4.out.alloc (.cells #[.int .i64 10] 3)) hg5 (by simp; omega)
              have HOK5 : Hid (∀ x ∈ zs ++ ys.take N ++ [10], okInt x) := fun x hx => by rcases List.mem_append.1 hx with h | h; (exact HOK3.out x h); (simp at h; subst h; exact ok10)
              obtain ⟨A5, c5, rfl, hc5, _⟩ := ho5.ints HOK5.out
              have s5 : w4.heap.size + 1 ≤ w5.heap.size := by have := e5.size; simp at this; omega
              have I5 := Lib.hid ((I4.out.alloc (by omega) (.cells #[.int .i64 10] 3)).below e5 (by omega)); have HX5 := Lib.hid ((HX4.out.alloc (.cells #[.int .i64 10] 3)).below e5 (by omega)); have HN5 := Lib.hid ((HN4.out.alloc (.cells #[.int .i64 10] 3)).below e5 (by omega)); have HE5 : Hid (Below w.heap.size w w5) := below_step e5 (HE4.out.alloc (by omega) _) (by omega); have HO5 := Lib.hid ho5
              clear ho5 hg5 e5 I4 HX4 HN4 HE4 HO4
              have n1 := (HN5.out.2 1 _ rfl).1; have z1 := (HN5.out.2 1 _ rfl).2
              go_wp2
              clear n1 z1
              go_roundw
              case rel =>
                refine ⟨_, _, _, [], A5, _, c5, zs ++ ys.take N ++ [10], orM s' 2, rfl, rfl, by omega, by omega, hor2, hor3, by simp; omega, ?_, ?_, HOK5, ?_, ?_, ?_, HMORE⟩
                · show Ints _ _ _ _ _ _
                  (try rw [Nat.sub_self])
                  exact (Ints.nil _ _ _ 0 _).1
                · show OwnI _ _ _ _ _
                  refine OwnI.set_ ?_ (by omega) _
                  exact HO5.out
                · show Box _ _ _
                  (repeat (with_reducible refine Box.set_ ?_ (by omega) _))
                  exact HX5.out
                · show Box _ _ _
                  have hx := HN5.out.put (i := 1) (by simp) (.int .i64 (orM s' 2))
                  simpa using hx
                · show Below _ _ _
                  (repeat (with_reducible refine below_set ?_ (by omega) _))
                  exact HE5.out
              case measure => simp [lenV]; omega
            · skip
              have HMORE := Lib.hid (MORE.out (by decide) (waits_ne (by decide)))
              have hor := or_i64 h0 h7 (k := 4) (by decide)
              obtain ⟨hor1, hor2, hor3⟩ := hor
              have hm4 : 1 ≤ m4 := by have := HM.out; simp [endL] at this; omega
              clear MORE STOP WAIT Q7 Q3 HM
              go_wp2_with (at_builtin; refine wpList_append_ints rfl (.tmp 54) (.tmp 55) rfl (w1.heap.size + 1) (.slice A3 (k2 + N) c3) (k2 + N) (zs ++ ys.take N) rfl (HO4.out.alloc _) (some ⟨w4.heap.size, 0, none⟩) 1 1 [10] rfl (lit1 w4 10 ok10) (by omega) (by simp; omega) ?_)
              intro v5 w5 ho5 hg5
              have ho5 : OwnI w5 (w1.heap.size + 1) v5 (k2 + N + 1) (zs ++ ys.take N ++ [10]) := by rw [List.append_assoc]; simpa using ho5
              have e5 := below_grown (HO4.out.alloc (.cells #[.int .i64 10] 3)) hg5 (by simp; omega)
              have HOK5 : Hid (∀ x ∈ zs ++ ys.take N ++ [10], okInt x) := fun x hx => by rcases List.mem_append.1 hx with h | h; (exact HOK3.out x h); (simp at h; subst h; exact ok10)
              obtain ⟨A5, c5, rfl, hc5, _⟩ := ho5.ints HOK5.out
              have s5 : w4.heap.size + 1 ≤ w5.heap.size := by have := e5.size; simp at this; omega
              have I5 := Lib.hid ((I4.out.alloc (by omega) (.cells #[.int .i64 10] 3)).below e5 (by omega)); have HX5 := Lib.hid ((HX4.out.alloc (.cells #[.int .i64 10] 3)).below e5 (by omega)); have HN5 := Lib.hid ((HN4.out.alloc (.cells #[.int .i64 10] 3)).below e5 (by omega)); have HE5 : Hid (Below w.heap.size w w5) := below_step e5 (HE4.out.alloc (by omega) _) (by omega); have HO5 := Lib.hid ho5
              clear ho5 hg5 e5 I4 HX4 HN4 HE4 HO4
              have n1 := (HN5.out.2 1 _ rfl).1; have z1 := (HN5.out.2 1 _ rfl).2
              go_wp2
              clear n1 z1
              go_roundw
              case rel =>
                refine ⟨_, _, _, [], A5, _, c5, zs ++ ys.take N ++ [10], orM s' 4, rfl, rfl, by omega, by omega, hor2, hor3, by simp; omega, ?_, ?_, HOK5, ?_, ?_, ?_, HMORE⟩
                · show Ints _ _ _ _ _ _
                  (try rw [Nat.sub_self])
                  exact (Ints.nil _ _ _ 0 _).1
                · show OwnI _ _ _ _ _
                  refine OwnI.set_ ?_ (by omega) _
                  exact HO5.out
                · show Box _ _ _
                  (repeat (with_reducible refine Box.set_ ?_ (by omega) _))
                  exact HX5.out
                · show Box _ _ _
                  have hx := HN5.out.put (i := 1) (by simp) (.int .i64 (orM s' 4))
                  simpa using hx
                · show Below _ _ _
                  (repeat (with_reducible refine below_set ?_ (by omega) _))
                  exact HE5.out
              case measure => simp [lenV]; omega
set_option maxHeartbeats 8000000 in
theorem madeOne_held {A : Option Addr} {n c : Nat} {xs : List Int} {f : Bool} {s : Int} {w : World} {L B : Nat} (h : Ints w L B A n xs) (hB : B ≤ w.heap.size) (hnc : n ≤ c) (hn : n ≤ 1000) (h0 : 0 ≤ s) (h7 : s ≤ 7) :
    Calls Try.prog 43 #[.agg #[.bool true, .int .i64 s], .slice A n c, .bool f] w (NlPost (nlH true xs && !f) (nlS f true s xs) (nlM f true xs) w) := by
  obtain ⟨R, hR⟩ : ∃ R, nlM f true xs = R := ⟨_, rfl⟩
  obtain ⟨S, hS⟩ : ∃ S, nlS f true s xs = S := ⟨_, rfl⟩
  obtain ⟨T, hT⟩ : ∃ T, (nlH true xs && !f) = T := ⟨_, rfl⟩
  rw [hR, hS, hT]
  have X0 : Hid (Box ((w.alloc (.cells #[.bool true, .int .i64 s] 24)).alloc (.cells #[.bool false, .int .i64 0] 24)) w.heap.size [.bool true, .int .i64 s]) := (Box.new w 24 [.bool true, .int .i64 s]).alloc _
  have R0 : Hid (Box ((w.alloc (.cells #[.bool true, .int .i64 s] 24)).alloc (.cells #[.bool false, .int .i64 0] 24)) (w.heap.size + 1) [.bool false, .int .i64 0]) := by
    have hx := Box.new (w.alloc (.cells #[.bool true, .int .i64 s] 24)) 24 [.bool false, .int .i64 0]
    rw [World.size_alloc] at hx
    exact hx
  have I0 : Hid (Ints ((w.alloc (.cells #[.bool true, .int .i64 s] 24)).alloc (.cells #[.bool false, .int .i64 0] 24)) L B A n xs) := (h.alloc hB _).alloc (by first | omega | (simp; omega) | (simp; done)) _
  have E0 : Hid (Below w.heap.size w ((w.alloc (.cells #[.bool true, .int .i64 s] 24)).alloc (.cells #[.bool false, .int .i64 0] 24))) := (by go_grown : Below w.heap.size w _)
  have s0 : ((w.alloc (.cells #[.bool true, .int .i64 s] 24)).alloc (.cells #[.bool false, .int .i64 0] 24)).heap.size = w.heap.size + 2 := by simp
  have HOK := Lib.hid h.ok
  have hnl := h.len
  have HNL := Lib.hid hnl
  clear h hnl
  go_enter Try.func43, Try.ntmps43
  go_upto_region 1 with (fail)
  generalize ((w.alloc (.cells #[.bool true, .int .i64 s] 24)).alloc (.cells #[.bool false, .int .i64 0] 24)) = w0 at *
  have x0 := (X0.out.2 0 _ rfl).1
  · obtain ⟨q1, q2, q3⟩ := nl_held f xs s
    have HR := Lib.hid (q1.symm.trans hR)
    have HS := Lib.hid (q2.symm.trans hS)
    have HT : Hid ((nlH false (13 :: xs) && !f) = T) := by show _ = _; rw [← q3]; exact hT
    clear hR hS hT q1 q2 q3
    have G0 := Lib.hid (own_lit (w := w0) (base := w.heap.size + 2) (by omega) 13)
    have I1 := Lib.hid (I0.out.alloc (by omega) (.cells #[.int .i64 13] 3))
    have gs : w.heap.size + 2 ≤ w0.heap.size := by omega
    clear s0
    go_wp2_with (at_builtin; refine wpList_append_ints rfl (.tmp 14) (.tmp 15) rfl (w.heap.size + 2) (.slice (some ⟨w0.heap.size, 0, none⟩) 1 1) 1 [13] rfl G0.out A n c xs rfl I1.out (by omega) (by simp; omega) ?_)
    intro v1 w1 ho1 hg1
    have e1 := below_grown G0.out hg1 (by simp; omega)
    have X1 := Lib.hid ((X0.out.alloc (.cells #[.int .i64 13] 3)).below e1 (by omega))
    have R1 := Lib.hid ((R0.out.alloc (.cells #[.int .i64 13] 3)).below e1 (by omega))
    have E1 : Hid (Below w.heap.size w w1) := below_step e1 (E0.out.alloc (by omega) _) (by omega)
    have hs1 : w.heap.size + 2 ≤ w1.heap.size := by have := e1.size; simp at this; omega
    obtain ⟨A1, c1, rfl, hc1, hi1⟩ := ho1.ints (fun x hx => by rcases List.mem_cons.1 hx with h | h; (subst h; exact ok13); exact HOK.out x h)
    have hi1 : Ints w1 (w.heap.size + 2) w1.heap.size A1 (1 + n) (13 :: xs) := hi1
    have I2 := Lib.hid hi1
    have hn1 : 1 + n ≤ 1001 := by omega
    have hB1 : w1.heap.size ≤ w1.heap.size := Nat.le_refl _
    clear ho1 hg1 e1 X0 R0 E0 G0 I0 I1 x0 gs hi1 HNL HOK hB hn hnc
    generalize (1 + n : Nat) = n1 at *
    go_upto_region 3 with (fail)
    have x1 := (X1.out.2 1 _ rfl).1
    have N1 := Lib.hid (Box.new w1 24 [.bool false, .int .i64 s])
    have X1 := Lib.hid (R1.out.alloc (.cells #[.bool false, .int .i64 s] 24))
    have E2 := Lib.hid (E1.out.alloc (by omega) (.cells #[.bool false, .int .i64 s] 24))
    have I3 := Lib.hid (I2.out.alloc hB1 (.cells #[.bool false, .int .i64 s] 24))
    have O1 : Hid (OwnI (w1.alloc (.cells #[.bool false, .int .i64 s] 24)) (w1.heap.size + 1) (.slice none 0 0) 0 []) := OwnI.nil_ _ _
    have s2 : (w1.alloc (.cells #[.bool false, .int .i64 s] 24)).heap.size = w1.heap.size + 1 := by simp
    go_upto_region 4 with (fail)
    generalize w1.alloc (.cells #[.bool false, .int .i64 s] 24) = w2 at *
    clear x1
    go_wp2
    go_loopw [1, 9] (fun l o wr => ∃ (A1 : Option Addr) (k1 c1 : Nat) (ys : List Int) (A2 : Option Addr) (k2 c2 : Nat) (zs : List Int) (s' : Int), l = .slice A1 k1 c1 ∧ o = .slice A2 k2 c2 ∧ k1 ≤ c1 ∧ k2 + k1 ≤ 1001 ∧ 0 ≤ s' ∧ s' ≤ 7 ∧ w1.heap.size + 1 ≤ wr.heap.size ∧ Hid (Ints wr (w.heap.size + 2) w1.heap.size A1 k1 ys) ∧ Hid (OwnI wr (w1.heap.size + 1) (.slice A2 k2 c2) k2 zs) ∧ Hid (∀ x ∈ zs, okInt x) ∧ Hid (Box wr (w.heap.size + 1) [.bool false, .int .i64 0]) ∧ Hid (Box wr w1.heap.size [.bool false, .int .i64 s']) ∧ Hid (Below w.heap.size w wr) ∧ Hid (NlSt f zs ys s' R S T)) (fun l _ _ => lenV l)
    case atStart => exact ⟨A1, n1, c1, (13 :: xs), none, 0, 0, [], s, rfl, rfl, hc1, by omega, h0, h7, by omega, I3, O1, (fun x hx => by cases hx), X1, N1, E2, ⟨HR.out, HS.out, HT.out⟩⟩
    case round =>
      clear N1 X1 E2 I3 O1 s2 HR HS HT h0 h7 hn1 hc1
      obtain ⟨A1, k1, c1, ys, A2, k2, c2, zs, s', rfl, rfl, hkc, hk21, h0, h7, hsz, HI, HO, HZ, HX, HN, HE, HS⟩ := hrel
      have hl1 := HI.out.len
      by_cases hk0 : k1 = 0
      · subst hk0
        obtain rfl : ys = [] := List.eq_nil_of_length_eq_zero hl1.symm
        clear hl1
        obtain ⟨rfl, rfl, rfl⟩ := nl_end0 HS.out
        have n0 := (HN.out.2 0 _ rfl).1; have n1 := (HN.out.2 1 _ rfl).1
        have y0 := (HX.out.2 0 _ rfl).1; have y1 := (HX.out.2 1 _ rfl).1; have z0 := (HX.out.2 0 _ rfl).2; have z1 := (HX.out.2 1 _ rfl).2
        go_wp2
        refine bodyPost_ret (v := .tuple #[.agg #[.bool false, .int .i64 S], .slice A2 k2 c2]) (by simp [results, Try.results43, go_sem, n0, n1, y0, y1, z0, z1]) rfl ?_
        refine nl_end (w := w) (base := w1.heap.size + 1) ?_ ?_ (by omega) HZ.out
        · (repeat (with_reducible refine below_set ?_ (by omega) _))
          exact HE.out
        · (repeat (with_reducible refine OwnI.set_ ?_ (by omega) _))
          exact HO.out
      · obtain ⟨b, o, x0, rfl, _, _, _⟩ := HI.out.at_ (k := 0) (by omega)
        obtain ⟨q1, q2, q3, _, _, _⟩ := nl_round f ys s'
        have q7 := feK_cases ys
        have hfe := firstEnd_any (c := c1) HI.out
        have more := nl_more HS.out
        have stop := nl_stop HS.out
        have wait := nl_wait HS.out
        have q2 := q2 (by intro e; subst e; exact hk0 hl1)
        rw [← hl1] at q1 q3
        obtain ⟨N, hN⟩ : ∃ N, feN ys = N := ⟨_, rfl⟩
        obtain ⟨K, hK⟩ : ∃ K, feK ys = K := ⟨_, rfl⟩
        rw [hN, hK] at q1 q2 more stop wait
        rw [hK] at q7 q3
        rw [hN] at q3
        rw [hN, hK] at hfe
        obtain ⟨M, hM⟩ : ∃ M, (endL K).length = M := ⟨_, rfl⟩
        rw [hM] at q1 q2 more wait
        have MORE := Lib.hid more; have STOP := Lib.hid stop; have WAIT := Lib.hid wait; have HL1 := Lib.hid hl1; have HFE := Lib.hid hfe; have Q7 := Lib.hid q7; have Q3 := Lib.hid q3
        have HM := Lib.hid hM
        clear more stop wait hl1 hN hK hfe hM q7 q3 HS
        go_wp2_with fail
        refine HFE.out.mono ?_
        rintro e w' ⟨rfl, rfl⟩
        have SRC := Lib.hid (HI.out.take (m := N) (by omega))
        go_wp2_with (at_builtin; refine wpList_append_ints rfl (.tmp 28) (.tmp 31) rfl (w1.heap.size + 1) (.slice A2 k2 c2) k2 zs rfl HO.out (some ⟨b, o, none⟩) N _ (ys.take N) rfl SRC.out (by omega) (by omega) ?_)
        intro v3 w3 ho3 hg3
        have e3 := below_grown HO.out hg3 hsz
        have s3 := e3.size
        have HOK3 : Hid (∀ x ∈ zs ++ ys.take N, okInt x) := fun x hx => by rcases List.mem_append.1 hx with h | h; (exact HZ.out x h); exact HI.out.ok x (List.mem_of_mem_take h)
        obtain ⟨A3, c3, rfl, hc3, _⟩ := ho3.ints HOK3.out
        have I3 := Lib.hid (HI.out.below e3 (by omega)); have HX3 := Lib.hid (HX.out.below e3 (by omega)); have HN3 := Lib.hid (HN.out.below e3 (by omega)); have HE3 : Hid (Below w.heap.size w w3) := below_step e3 HE.out (by omega); have HO3 := Lib.hid ho3
        clear ho3 hg3 e3 HI HX HN HE HO HZ SRC HFE
        go_wp2_with fail
        refine endBytes_any.mono ?_
        rintro e w4 ⟨A4, m4, c4, rfl, _, hb4, hi4⟩
        obtain rfl : m4 = M := hi4.len.trans HM.out
        have s4 := hb4.size
        have I4 := Lib.hid (I3.out.below hb4 (by omega)); have HX4 := Lib.hid (HX3.out.below hb4 (by omega)); have HN4 := Lib.hid (HN3.out.below hb4 (by omega)); have HE4 : Hid (Below w.heap.size w w4) := below_step hb4 HE3.out (by omega); have HO4 := Lib.hid (HO3.out.below hb4 (Nat.le_refl _))
        clear hb4 hi4 I3 HX3 HN3 HE3 HO3
        by_cases hr : N + m4 < k1
        · have hz : (((k1 - (N + m4) : Nat) : Int) == 0) = false := by simp; omega
          have hlt : N + m4 < ys.length := by have := HL1.out; omega
          have HLT := Lib.hid hlt
          clear hlt
          rcases Q7.out with rfl | rfl | rfl | rfl
          · exact absurd (Q3.out rfl) (by omega)
          · skip
            have HMORE := Lib.hid (MORE.out (by decide) (waits_rest HLT.out))
            have hor := or_i64 h0 h7 (k := 1) (by decide)
            obtain ⟨hor1, hor2, hor3⟩ := hor
            have hm4 : 1 ≤ m4 := by have := HM.out; simp [endL] at this; omega
            clear MORE STOP WAIT Q7 Q3 HM
            go_wp2_with (at_builtin; refine wpList_append_ints rfl (.tmp 54) (.tmp 55) rfl (w1.heap.size + 1) (.slice A3 (k2 + N) c3) (k2 + N) (zs ++ ys.take N) rfl (HO4.out.alloc _) (some ⟨w4.heap.size, 0, none⟩) 1 1 [10] rfl (lit1 w4 10 ok10) (by omega) (by simp; omega) ?_)
            intro v5 w5 ho5 hg5
            have ho5 : OwnI w5 (w1.heap.size + 1) v5 (k2 + N + 1) (zs ++ ys.take N ++ [10]) := by rw [List.append_assoc]; simpa using ho5
            have e5 := below_grown (HO4.out.alloc (.cells #[.int .i64 10] 3)) hg5 (by simp; omega)
            have HOK5 : Hid (∀ x ∈ zs ++ ys.take N ++ [10], okInt x) := fun x hx => by rcases List.mem_append.1 hx with h | h; (exact HOK3.out x h); (simp at h; subst h; exact ok10)
            obtain ⟨A5, c5, rfl, hc5, _⟩ := ho5.ints HOK5.out
            have s5 : w4.heap.size + 1 ≤ w5.heap.size := by have := e5.size; simp at this; omega
            have I5 := Lib.hid ((I4.out.alloc (by omega) (.cells #[.int .i64 10] 3)).below e5 (by omega)); have HX5 := Lib.hid ((HX4.out.alloc (.cells #[.int .i64 10] 3)).below e5 (by omega)); have HN5 := Lib.hid ((HN4.out.alloc (.cells #[.int .i64 10] 3)).below e5 (by omega)); have HE5 : Hid (Below w.heap.size w w5) := below_step e5 (HE4.out.alloc (by omega) _) (by omega); have HO5 := Lib.hid ho5
            clear ho5 hg5 e5 I4 HX4 HN4 HE4 HO4
            have n1 := (HN5.out.2 1 _ rfl).1; have z1 := (HN5.out.2 1 _ rfl).2
            go_wp2
            clear n1 z1
            go_roundw
            case rel =>
              refine ⟨_, _, _, ys.drop (N + m4), A5, _, c5, zs ++ ys.take N ++ [10], orM s' 1, rfl, rfl, by omega, by omega, hor2, hor3, by simp; omega, ?_, ?_, HOK5, ?_, ?_, ?_, HMORE⟩
              · show Ints _ _ _ _ _ _
                (repeat (with_reducible refine Ints.set_ ?_ (by omega) _))
                rw [← add_plain]
                exact I5.out.drop (by omega)
              · show OwnI _ _ _ _ _
                refine OwnI.set_ ?_ (by omega) _
                exact HO5.out
              · show Box _ _ _
                (repeat (with_reducible refine Box.set_ ?_ (by omega) _))
                exact HX5.out
              · show Box _ _ _
                have hx := HN5.out.put (i := 1) (by simp) (.int .i64 (orM s' 1))
                simpa using hx
              · show Below _ _ _
                (repeat (with_reducible refine below_set ?_ (by omega) _))
                exact HE5.out
            case measure => simp [lenV]; omega
          · skip
            have HMORE := Lib.hid (MORE.out (by decide) (waits_rest HLT.out))
            have hor := or_i64 h0 h7 (k := 2) (by decide)
            obtain ⟨hor1, hor2, hor3⟩ := hor
            have hm4 : 1 ≤ m4 := by have := HM.out; simp [endL] at this; omega
            clear MORE STOP WAIT Q7 Q3 HM
            go_wp2_with (at_builtin; refine wpList_append_ints rfl (.tmp 54) (.tmp 55) rfl (w1.heap.size + 1) (.slice A3 (k2 + N) c3) (k2 + N) (zs ++ ys.take N) rfl (HO4.out.alloc _) (some ⟨w4.heap.size, 0, none⟩) 1 1 [10] rfl (lit1 w4 10 ok10) (by omega) (by simp; omega) ?_)
            intro v5 w5 ho5 hg5
            have ho5 : OwnI w5 (w1.heap.size + 1) v5 (k2 + N + 1) (zs ++ ys.take N ++ [10]) := by rw [List.append_assoc]; simpa using ho5
            have e5 := below_grown (HO4.out.alloc (.cells #[.int .i64 10] 3)) hg5 (by simp; omega)
            have HOK5 : Hid (∀ x ∈ zs ++ ys.take N ++ [10], okInt x) := fun x hx => by rcases List.mem_append.1 hx with h | h; (exact HOK3.out x h); (simp at h; subst h; exact ok10)
            obtain ⟨A5, c5, rfl, hc5, _⟩ := ho5.ints HOK5.out
            have s5 : w4.heap.size + 1 ≤ w5.heap.size := by have := e5.size; simp at this; omega
            have I5 := Lib.hid ((I4.out.alloc (by omega) (.cells #[.int .i64 10] 3)).below e5 (by omega)); have HX5 := Lib.hid ((HX4.out.alloc (.cells #[.int .i64 10] 3)).below e5 (by omega)); have HN5 := Lib.hid ((HN4.out.alloc (.cells #[.int .i64 10] 3)).below e5 (by omega)); have HE5 : Hid (Below w.heap.size w w5) := below_step e5 (HE4.out.alloc (by omega) _) (by omega); have HO5 := Lib.hid ho5
            clear ho5 hg5 e5 I4 HX4 HN4 HE4 HO4
            have n1 := (HN5.out.2 1 _ rfl).1; have z1 := (HN5.out.2 1 _ rfl).2
            go_wp2
            clear n1 z1
            go_roundw
            case rel =>
              refine ⟨_, _, _, ys.drop (N + m4), A5, _, c5, zs ++ ys.take N ++ [10], orM s' 2, rfl, rfl, by omega, by omega, hor2, hor3, by simp; omega, ?_, ?_, HOK5, ?_, ?_, ?_, HMORE⟩
              · show Ints _ _ _ _ _ _
                (repeat (with_reducible refine Ints.set_ ?_ (by omega) _))
                rw [← add_plain]
                exact I5.out.drop (by omega)
              · show OwnI _ _ _ _ _
                refine OwnI.set_ ?_ (by omega) _
                exact HO5.out
              · show Box _ _ _
                (repeat (with_reducible refine Box.set_ ?_ (by omega) _))
                exact HX5.out
              · show Box _ _ _
                have hx := HN5.out.put (i := 1) (by simp) (.int .i64 (orM s' 2))
                simpa using hx
              · show Below _ _ _
                (repeat (with_reducible refine below_set ?_ (by omega) _))
                exact HE5.out
            case measure => simp [lenV]; omega
          · skip
            have HMORE := Lib.hid (MORE.out (by decide) (waits_rest HLT.out))
            have hor := or_i64 h0 h7 (k := 4) (by decide)
            obtain ⟨hor1, hor2, hor3⟩ := hor
            have hm4 : 1 ≤ m4 := by have := HM.out; simp [endL] at this; omega
            clear MORE STOP WAIT Q7 Q3 HM
            go_wp2_with (at_builtin; refine wpList_append_ints rfl (.tmp 54) (.tmp 55) rfl (w1.heap.size + 1) (.slice A3 (k2 + N) c3) (k2 + N) (zs ++ ys.take N) rfl (HO4.out.alloc _) (some ⟨w4.heap.size, 0, none⟩) 1 1 [10] rfl (lit1 w4 10 ok10) (by omega) (by simp; omega) ?_)
            intro v5 w5 ho5 hg5
            have ho5 : OwnI w5 (w1.heap.size + 1) v5 (k2 + N + 1) (zs ++ ys.take N ++ [10]) := by rw [List.append_assoc]; simpa using ho5
            have e5 := below_grown (HO4.out.alloc (.cells #[.int .i64 10] 3)) hg5 (by simp; omega)
            have HOK5 : Hid (∀ x ∈ zs ++ ys.take N ++ [10], okInt x) := fun x hx => by rcases List.mem_append.1 hx with h | h; (exact HOK3.out x h); (simp at h; subst h; exact ok10)
            obtain ⟨A5, c5, rfl, hc5, _⟩ := ho5.ints HOK5.out
            have s5 : w4.heap.size + 1 ≤ w5.heap.size := by have := e5.size; simp at this; omega
            have I5 := Lib.hid ((I4.out.alloc (by omega) (.cells #[.int .i64 10] 3)).below e5 (by omega)); have HX5 := Lib.hid ((HX4.out.alloc (.cells #[.int .i64 10] 3)).below e5 (by omega)); have HN5 := Lib.hid ((HN4.out.alloc (.cells #[.int .i64 10] 3)).below e5 (by omega)); have HE5 : Hid (Below w.heap.size w w5) := below_step e5 (HE4.out.alloc (by omega) _) (by omega); have HO5 := Lib.hid ho5
            clear ho5 hg5 e5 I4 HX4 HN4 HE4 HO4
            have n1 := (HN5.out.2 1 _ rfl).1; have z1 := (HN5.out.2 1 _ rfl).2
            go_wp2
            clear n1 z1
            go_roundw
            case rel =>
              refine ⟨_, _, _, ys.drop (N + m4), A5, _, c5, zs ++ ys.take N ++ [10], orM s' 4, rfl, rfl, by omega, by omega, hor2, hor3, by simp; omega, ?_, ?_, HOK5, ?_, ?_, ?_, HMORE⟩
              · show Ints _ _ _ _ _ _
                (repeat (with_reducible refine Ints.set_ ?_ (by omega) _))
                rw [← add_plain]
                exact I5.out.drop (by omega)
              · show OwnI _ _ _ _ _
                refine OwnI.set_ ?_ (by omega) _
                exact HO5.out
              · show Box _ _ _
                (repeat (with_reducible refine Box.set_ ?_ (by omega) _))
                exact HX5.out
              · show Box _ _ _
                have hx := HN5.out.put (i := 1) (by simp) (.int .i64 (orM s' 4))
                simpa using hx
              · show Below _ _ _
                (repeat (with_reducible refine below_set ?_ (by omega) _))
                exact HE5.out
            case measure => simp [lenV]; omega
        · obtain rfl : k1 = N + m4 := by omega
          have hd : ys.drop (N + m4) = [] := List.drop_of_length_le (by have := HL1.out; omega)
          have MORE : Hid (¬ K = 0 → waits K (ys.drop (N + m4)) f = false → NlSt f (zs ++ ys.take N ++ [10]) [] (orM s' K) R S T) := fun h1 h2 => by have := MORE.out h1 h2; rw [hd] at this; exact this
          clear hd
          by_cases hcap : c1 = N + m4
          · subst hcap
            rcases Q7.out with rfl | rfl | rfl | rfl
            · skip
              have HSTOP := Lib.hid (STOP.out rfl)
              clear MORE STOP WAIT Q7 Q3 HM
              go_wp2
              go_roundw
              case rel => exact ⟨_, _, _, [], A3, _, c3, zs ++ ys.take N, s', rfl, rfl, by omega, by omega, h0, h7, by omega, (by show Ints _ _ _ _ _ _; rw [Nat.sub_self]; exact (Ints.nil _ _ _ 0 _).1), HO4, HOK3, HX4, HN4, HE4, HSTOP⟩
              case measure => simp [lenV]; omega
            · cases f
              · skip
                obtain ⟨rfl, rfl, rfl⟩ := WAIT.out (waits_yes (by have := HL1.out; omega))
                clear MORE STOP WAIT Q7 Q3 HM
                have z0 := (HN4.out.2 0 _ rfl).1; have z1 := (HN4.out.2 0 _ rfl).2
                go_upto_region 14 with (fail)
                have HN5 : Hid (Box (w4.setCell ⟨w1.heap.size, 0, none⟩ (.bool true)) w1.heap.size [.bool true, .int .i64 S]) := by show Box _ _ _; have hx := HN4.out.put (i := 0) (by simp) (.bool true); simpa using hx
                have HX5 : Hid (Box (w4.setCell ⟨w1.heap.size, 0, none⟩ (.bool true)) (w.heap.size + 1) [.bool false, .int .i64 0]) := by show Box _ _ _; (repeat (with_reducible refine Box.set_ ?_ (by omega) _)); exact HX4.out
                have HO5 : Hid (OwnI (w4.setCell ⟨w1.heap.size, 0, none⟩ (.bool true)) (w1.heap.size + 1) (.slice A3 (k2 + N) c3) (k2 + N) (zs ++ ys.take N)) := HO4.out.set_ (by omega) _
                have HE5 : Hid (Below w.heap.size w (w4.setCell ⟨w1.heap.size, 0, none⟩ (.bool true))) := by show Below _ _ _; (repeat (with_reducible refine below_set ?_ (by omega) _)); exact HE4.out
                clear z0 z1 HN4 HX4 HO4 HE4 I4
                generalize w4.setCell ⟨w1.heap.size, 0, none⟩ (.bool true) = w5 at *
                have n0 := (HN5.out.2 0 _ rfl).1; have n1 := (HN5.out.2 1 _ rfl).1; have y0 := (HX5.out.2 0 _ rfl).1; have y1 := (HX5.out.2 1 _ rfl).1; have f0 := (HX5.out.2 0 _ rfl).2; have f1 := (HX5.out.2 1 _ rfl).2
                go_wp2
                refine bodyPost_ret (v := .tuple #[.agg #[.bool true, .int .i64 S], .slice A3 (k2 + N) c3]) (by simp [results, Try.results43, go_sem, n0, n1, y0, y1, f0, f1]) rfl ?_
                refine nl_end (w := w) (base := w1.heap.size + 1) ?_ ?_ (by omega) HOK3.out
                · (repeat (with_reducible refine below_set ?_ (by omega) _))
                  exact HE5.out
                · (repeat (with_reducible refine OwnI.set_ ?_ (by omega) _))
                  exact HO5.out
              · skip
                have HMORE := Lib.hid (MORE.out (by decide) waits_fin)
                have hor := or_i64 h0 h7 (k := 1) (by decide)
                obtain ⟨hor1, hor2, hor3⟩ := hor
                have hm4 : 1 ≤ m4 := by have := HM.out; simp [endL] at this; omega
                clear MORE STOP WAIT Q7 Q3 HM
                go_wp2_with (at_builtin; refine wpList_append_ints rfl (.tmp 54) (.tmp 55) rfl (w1.heap.size + 1) (.slice A3 (k2 + N) c3) (k2 + N) (zs ++ ys.take N) rfl (HO4.out.alloc _) (some ⟨w4.heap.size, 0, none⟩) 1 1 [10] rfl (lit1 w4 10 ok10) (by omega) (by simp; omega) ?_)
                intro v5 w5 ho5 hg5
                have ho5 : OwnI w5 (w1.heap.size + 1) v5 (k2 + N + 1) (zs ++ ys.take N ++ [10]) := by rw [List.append_assoc]; simpa using ho5
                have e5 := below_grown (HO4.out.alloc (.cells #[.int .i64 10] 3)) hg5 (by simp; omega)
                have HOK5 : Hid (∀ x ∈ zs ++ ys.take N ++ [10], okInt x) := fun x hx => by rcases List.mem_append.1 hx with h | h; (exact HOK3.out x h); (simp at h; subst h; exact ok10)
                obtain ⟨A5, c5, rfl, hc5, _⟩ := ho5.ints HOK5.out
                have s5 : w4.heap.size + 1 ≤ w5.heap.size := by have := e5.size; simp at this; omega
                have I5 := Lib.hid ((I4.out.alloc (by omega) (.cells #[.int .i64 10] 3)).below e5 (by omega)); have HX5 := Lib.hid ((HX4.out.alloc (.cells #[.int .i64 10] 3)).below e5 (by omega)); have HN5 := Lib.hid ((HN4.out.alloc (.cells #[.int .i64 10] 3)).below e5 (by omega)); have HE5 : Hid (Below w.heap.size w w5) := below_step e5 (HE4.out.alloc (by omega) _) (by omega); have HO5 := Lib.hid ho5
                clear ho5 hg5 e5 I4 HX4 HN4 HE4 HO4
                have n1 := (HN5.out.2 1 _ rfl).1; have z1 := (HN5.out.2 1 _ rfl).2
                go_wp2
                clear n1 z1
                go_roundw
                case rel =>
                  refine ⟨_, _, _, [], A5, _, c5, zs ++ ys.take N ++ [10], orM s' 1, rfl, rfl, by omega, by omega, hor2, hor3, by simp; omega, ?_, ?_, HOK5, ?_, ?_, ?_, HMORE⟩
                  · show Ints _ _ _ _ _ _
                    (try rw [Nat.sub_self])
                    exact (Ints.nil _ _ _ 0 _).1
                  · show OwnI _ _ _ _ _
                    refine OwnI.set_ ?_ (by omega) _
                    exact HO5.out
                  · show Box _ _ _
                    (repeat (with_reducible refine Box.set_ ?_ (by omega) _))
                    exact HX5.out
                  · show Box _ _ _
                    have hx := HN5.out.put (i := 1) (by simp) (.int .i64 (orM s' 1))
                    simpa using hx
                  · show Below _ _ _
                    (repeat (with_reducible refine below_set ?_ (by omega) _))
                    exact HE5.out
                case measure => simp [lenV]; omega
            · skip
              have HMORE := Lib.hid (MORE.out (by decide) (waits_ne (by decide)))
              have hor := or_i64 h0 h7 (k := 2) (by decide)
              obtain ⟨hor1, hor2, hor3⟩ := hor
              have hm4 : 1 ≤ m4 := by have := HM.out; simp [endL] at this; omega
              clear MORE STOP WAIT Q7 Q3 HM
              go_wp2_with (at_builtin; refine wpList_append_ints rfl (.tmp 54) (.tmp 55) rfl (w1.heap.size + 1) (.slice A3 (k2 + N) c3) (k2 + N) (zs ++ ys.take N) rfl (HO4.out.alloc _) (some ⟨w4.heap.size, 0, none⟩) 1 1 [10] rfl (lit1 w4 10 ok10) (by omega) (by simp; omega) ?_)
              intro v5 w5 ho5 hg5
              have ho5 : OwnI w5 (w1.heap.size + 1) v5 (k2 + N + 1) (zs ++ ys.take N ++ [10]) := by rw [List.append_assoc]; simpa using ho5
              have e5 := below_grown (HO4.out.alloc (.cells #[.int .i64 10] 3)) hg5 (by simp; omega)
              have HOK5 : Hid (∀ x ∈ zs ++ ys.take N ++ [10], okInt x) := fun x hx => by rcases List.mem_append.1 hx with h | h; (exact HOK3.out x h); (simp at h; subst h; exact ok10)
              obtain ⟨A5, c5, rfl, hc5, _⟩ := ho5.ints HOK5.out
              have s5 : w4.heap.size + 1 ≤ w5.heap.size := by have := e5.size; simp at this; omega
              have I5 := Lib.hid ((I4.out.alloc (by omega) (.cells #[.int .i64 10] 3)).below e5 (by omega)); have HX5 := Lib.hid ((HX4.out.alloc (.cells #[.int .i64 10] 3)).below e5 (by omega)); have HN5 := Lib.hid ((HN4.out.alloc (.cells #[.int .i64 10] 3)).below e5 (by omega)); have HE5 : Hid (Below w.heap.size w w5) := below_step e5 (HE4.out.alloc (by omega) _) (by omega); have HO5 := Lib.hid ho5
              clear ho5 hg5 e5 I4 HX4 HN4 HE4 HO4
              have n1 := (HN5.out.2 1 _ rfl).1; have z1 := (HN5.out.2 1 _ rfl).2
              go_wp2
              clear n1 z1
              go_roundw
              case rel =>
                refine ⟨_, _, _, [], A5, _, c5, zs ++ ys.take N ++ [10], orM s' 2, rfl, rfl, by omega, by omega, hor2, hor3, by simp; omega, ?_, ?_, HOK5, ?_, ?_, ?_, HMORE⟩
                · show Ints _ _ _ _ _ _
                  (try rw [Nat.sub_self])
                  exact (Ints.nil _ _ _ 0 _).1
                · show OwnI _ _ _ _ _
                  refine OwnI.set_ ?_ (by omega) _
                  exact HO5.out
                · show Box _ _ _
                  (repeat (with_reducible refine Box.set_ ?_ (by omega) _))
                  exact HX5.out
                · show Box _ _ _
                  have hx := HN5.out.put (i := 1) (by simp) (.int .i64 (orM s' 2))
                  simpa using hx
                · show Below _ _ _
                  (repeat (with_reducible refine below_set ?_ (by omega) _))
                  exact HE5.out
              case measure => simp [lenV]; omega
            · skip
              have HMORE := Lib.hid (MORE.out (by decide) (waits_ne (by decide)))
              have hor := or_i64 h0 h7 (k := 4) (by decide)
              obtain ⟨hor1, hor2, hor3⟩ := hor
              have hm4 : 1 ≤ m4 := by have := HM.out; simp [endL] at this; omega
              clear MORE STOP WAIT Q7 Q3 HM
              go_wp2_with (at_builtin; refine wpList_append_ints rfl (.tmp 54) (.tmp 55) rfl (w1.heap.size + 1) (.slice A3 (k2 + N) c3) (k2 + N) (zs ++ ys.take N) rfl (HO4.out.alloc _) (some ⟨w4.heap.size, 0, none⟩) 1 1 [10] rfl (lit1 w4 10 ok10) (by omega) (by simp; omega) ?_)
              intro v5 w5 ho5 hg5
              have ho5 : OwnI w5 (w1.heap.size + 1) v5 (k2 + N + 1) (zs ++ ys.take N ++ [10]) := by rw [List.append_assoc]; simpa using ho5
              have e5 := below_grown (HO4.out.alloc (.cells #[.int .i64 10] 3)) hg5 (by simp; omega)
              have HOK5 : Hid (∀ x ∈ zs ++ ys.take N ++ [10], okInt x) := fun x hx => by rcases List.mem_append.1 hx with h | h; (exact HOK3.out x h); (simp at h; subst h; exact ok10)
              obtain ⟨A5, c5, rfl, hc5, _⟩ := ho5.ints HOK5.out
              have s5 : w4.heap.size + 1 ≤ w5.heap.size := by have := e5.size; simp at this; omega
              have I5 := Lib.hid ((I4.out.alloc (by omega) (.cells #[.int .i64 10] 3)).below e5 (by omega)); have HX5 := Lib.hid ((HX4.out.alloc (.cells #[.int .i64 10] 3)).below e5 (by omega)); have HN5 := Lib.hid ((HN4.out.alloc (.cells #[.int .i64 10] 3)).below e5 (by omega)); have HE5 : Hid (Below w.heap.size w w5) := below_step e5 (HE4.out.alloc (by omega) _) (by omega); have HO5 := Lib.hid ho5
              clear ho5 hg5 e5 I4 HX4 HN4 HE4 HO4
              have n1 := (HN5.out.2 1 _ rfl).1; have z1 := (HN5.out.2 1 _ rfl).2
              go_wp2
              clear n1 z1
              go_roundw
              case rel =>
                refine ⟨_, _, _, [], A5, _, c5, zs ++ ys.take N ++ [10], orM s' 4, rfl, rfl, by omega, by omega, hor2, hor3, by simp; omega, ?_, ?_, HOK5, ?_, ?_, ?_, HMORE⟩
                · show Ints _ _ _ _ _ _
                  (try rw [Nat.sub_self])
                  exact (Ints.nil _ _ _ 0 _).1
                · show OwnI _ _ _ _ _
                  refine OwnI.set_ ?_ (by omega) _
                  exact HO5.out
                · show Box _ _ _
                  (repeat (with_reducible refine Box.set_ ?_ (by omega) _))
                  exact HX5.out
                · show Box _ _ _
                  have hx := HN5.out.put (i := 1) (by simp) (.int .i64 (orM s' 4))
                  simpa using hx
                · show Below _ _ _
                  (repeat (with_reducible refine below_set ?_ (by omega) _))
                  exact HE5.out
              case measure => simp [lenV]; omega
          · have hcl : N + m4 < c1 := by omega
            rcases Q7.out with rfl | rfl | rfl | rfl
            · skip
              have HSTOP := Lib.hid (STOP.out rfl)
              clear MORE STOP WAIT Q7 Q3 HM
              go_wp2
              go_roundw
              case rel => exact ⟨_, _, _, [], A3, _, c3, zs ++ ys.take N, s', rfl, rfl, by omega, by omega, h0, h7, by omega, (by show Ints _ _ _ _ _ _; rw [Nat.sub_self]; exact (Ints.nil _ _ _ 0 _).1), HO4, HOK3, HX4, HN4, HE4, HSTOP⟩
              case measure => simp [lenV]; omega
            · cases f
              · skip
                obtain ⟨rfl, rfl, rfl⟩ := WAIT.out (waits_yes (by have := HL1.out; omega))
                clear MORE STOP WAIT Q7 Q3 HM
                have z0 := (HN4.out.2 0 _ rfl).1; have z1 := (HN4.out.2 0 _ rfl).2
                go_upto_region 14 with (fail)
                have HN5 : Hid (Box (w4.setCell ⟨w1.heap.size, 0, none⟩ (.bool true)) w1.heap.size [.bool true, .int .i64 S]) := by show Box _ _ _; have hx := HN4.out.put (i := 0) (by simp) (.bool true); simpa using hx
                have HX5 : Hid (Box (w4.setCell ⟨w1.heap.size, 0, none⟩ (.bool true)) (w.heap.size + 1) [.bool false, .int .i64 0]) := by show Box _ _ _; (repeat (with_reducible refine Box.set_ ?_ (by omega) _)); exact HX4.out
                have HO5 : Hid (OwnI (w4.setCell ⟨w1.heap.size, 0, none⟩ (.bool true)) (w1.heap.size + 1) (.slice A3 (k2 + N) c3) (k2 + N) (zs ++ ys.take N)) := HO4.out.set_ (by omega) _
                have HE5 : Hid (Below w.heap.size w (w4.setCell ⟨w1.heap.size, 0, none⟩ (.bool true))) := by show Below _ _ _; (repeat (with_reducible refine below_set ?_ (by omega) _)); exact HE4.out
                clear z0 z1 HN4 HX4 HO4 HE4 I4
                generalize w4.setCell ⟨w1.heap.size, 0, none⟩ (.bool true) = w5 at *
                have n0 := (HN5.out.2 0 _ rfl).1; have n1 := (HN5.out.2 1 _ rfl).1; have y0 := (HX5.out.2 0 _ rfl).1; have y1 := (HX5.out.2 1 _ rfl).1; have f0 := (HX5.out.2 0 _ rfl).2; have f1 := (HX5.out.2 1 _ rfl).2
                go_wp2
                refine bodyPost_ret (v := .tuple #[.agg #[.bool true, .int .i64 S], .slice A3 (k2 + N) c3]) (by simp [results, Try.results43, go_sem, n0, n1, y0, y1, f0, f1]) rfl ?_
                refine nl_end (w := w) (base := w1.heap.size + 1) ?_ ?_ (by omega) HOK3.out
                · (repeat (with_reducible refine below_set ?_ (by omega) _))
                  exact HE5.out
                · (repeat (with_reducible refine OwnI.set_ ?_ (by omega) _))
                  exact HO5.out
              · skip
                have HMORE := Lib.hid (MORE.out (by decide) waits_fin)
                have hor := or_i64 h0 h7 (k := 1) (by decide)
                obtain ⟨hor1, hor2, hor3⟩ := hor
                have hm4 : 1 ≤ m4 := by have := HM.out; simp [endL] at this; omega
                clear MORE STOP WAIT Q7 Q3 HM
                go_wp2_with (at_builtin; refine wpList_append_ints rfl (.tmp 54) (.tmp 55) rfl (w1.heap.size + 1) (.slice A3 (k2 + N) c3) (k2 + N) (zs ++ ys.take N) rfl (HO4.out.alloc _) (some ⟨w4.heap.size, 0, none⟩) 1 1 [10] rfl (lit1 w4 10 ok10) (by omega) (by simp; omega) ?_)
                intro v5 w5 ho5 hg5
                have ho5 : OwnI w5 (w1.heap.size + 1) v5 (k2 + N + 1) (zs ++ ys.take N ++ [10]) := by rw [List.append_assoc]; simpa using ho5
                have e5 := below_grown (HO4.out.alloc (.cells #[.int .i64 10] 3)) hg5 (by simp; omega)
                have HOK5 : Hid (∀ x ∈ zs ++ ys.take N ++ [10], okInt x) := fun x hx => by rcases List.mem_append.1 hx with h | h; (exact HOK3.out x h); (simp at h; subst h; exact ok10)
                obtain ⟨A5, c5, rfl, hc5, _⟩ := ho5.ints HOK5.out
                have s5 : w4.heap.size + 1 ≤ w5.heap.size := by have := e5.size; simp at this; omega
                have I5 := Lib.hid ((I4.out.alloc (by omega) (.cells #[.int .i64 10] 3)).below e5 (by omega)); have HX5 := Lib.hid ((HX4.out.alloc (.cells #[.int .i64 10] 3)).below e5 (by omega)); have HN5 := Lib.hid ((HN4.out.alloc (.cells #[.int .i64 10] 3)).below e5 (by omega)); have HE5 : Hid (Below w.heap.size w w5) := below_step e5 (HE4.out.alloc (by omega) _) (by omega); have HO5 := Lib.hid ho5
                clear ho5 hg5 e5 I4 HX4 HN4 HE4 HO4
                have n1 := (HN5.out.2 1 _ rfl).1; have z1 := (HN5.out.2 1 _ rfl).2
                go_wp2
                clear n1 z1
                go_roundw
                case rel =>
                  refine ⟨_, _, _, [], A5, _, c5, zs ++ ys.take N ++ [10], orM s' 1, rfl, rfl, by omega, by omega, hor2, hor3, by simp; omega, ?_, ?_, HOK5, ?_, ?_, ?_, HMORE⟩
                  · show Ints _ _ _ _ _ _
                    (try rw [Nat.sub_self])
                    exact (Ints.nil _ _ _ 0 _).1
                  · show OwnI _ _ _ _ _
                    refine OwnI.set_ ?_ (by omega) _
                    exact HO5.out
                  · show Box _ _ _
                    (repeat (with_reducible refine Box.set_ ?_ (by omega) _))
                    exact HX5.out
                  · show Box _ _ _
                    have hx := HN5.out.put (i := 1) (by simp) (.int .i64 (orM s' 1))
                    simpa using hx
                  · show Below _ _ _
                    (repeat (with_reducible refine below_set ?_ (by omega) _))
                    exact HE5.out
                case measure => simp [lenV]; omega
            · skip
              have HMORE := Lib.hid (MORE.out (by decide) (waits_ne (by decide)))
              have hor := or_i64 h0 h7 (k := 2) (by decide)
              obtain ⟨hor1, hor2, hor3⟩ := hor
              have hm4 : 1 ≤ m4 := by have := HM.out; simp [endL] at this; omega
              clear MORE STOP WAIT Q7 Q3 HM
              go_wp2_with (at_builtin; refine wpList_append_ints rfl (.tmp 54) (.tmp 55) rfl (w1.heap.size + 1) (.slice A3 (k2 + N) c3) (k2 + N) (zs ++ ys.take N) rfl (HO4.out.alloc _) (some ⟨w4.heap.size, 0, none⟩) 1 1 [10] rfl (lit1 w4 10 ok10) (by omega) (by simp; omega) ?_)
              intro v5 w5 ho5 hg5
              have ho5 : OwnI w5 (w1.heap.size + 1) v5 (k2 + N + 1) (zs ++ ys.take N ++ [10]) := by rw [List.append_assoc]; simpa using ho5
              have e5 := below_grown (HO4.out.alloc (.cells #[.int .i64 10] 3)) hg5 (by simp; omega)
              have HOK5 : Hid (∀ x ∈ zs ++ ys.take N ++ [10], okInt x) := fun x hx => by rcases List.mem_append.1 hx with h | h; (exact HOK3.out x h); (simp at h; subst h; exact ok10)
              obtain ⟨A5, c5, rfl, hc5, _⟩ := ho5.ints HOK5.out
              have s5 : w4.heap.size + 1 ≤ w5.heap.size := by have := e5.size; simp at this; omega
              have I5 := Lib.hid ((I4.out.alloc (by omega) (.cells #[.int .i64 10] 3)).below e5 (by omega)); have HX5 := Lib.hid ((HX4.out.alloc (.cells #[.int .i64 10] 3)).below e5 (by omega)); have HN5 := Lib.hid ((HN4.out.alloc (.cells #[.int .i64 10] 3)).below e5 (by omega)); have HE5 : Hid (Below w.heap.size w w5) := below_step e5 (HE4.out.alloc (by omega) _) (by omega); have HO5 := Lib.hid ho5
              clear ho5 hg5 e5 I4 HX4 HN4 HE4 HO4
              have n1 := (HN5.out.2 1 _ rfl).1; have z1 := (HN5.out.2 1 _ rfl).2
              go_wp2
              clear n1 z1
              go_roundw
              case rel =>
                refine ⟨_, _, _, [], A5, _, c5, zs ++ ys.take N ++ [10], orM s' 2, rfl, rfl, by omega, by omega, hor2, hor3, by simp; omega, ?_, ?_, HOK5, ?_, ?_, ?_, HMORE⟩
                · show Ints _ _ _ _ _ _
                  (try rw [Nat.sub_self])
                  exact (Ints.nil _ _ _ 0 _).1
                · show OwnI _ _ _ _ _
                  refine OwnI.set_ ?_ (by omega) _
                  exact HO5.out
                · show Box _ _ _
                  (repeat (with_reducible refine Box.set_ ?_ (by omega) _))
                  exact HX5.out
                · show Box _ _ _
                  have hx := HN5.out.put (i := 1) (by simp) (.int .i64 (orM s' 2))
                  simpa using hx
                · show Below _ _ _
                  (repeat (with_reducible refine below_set ?_ (by omega) _))
                  exact HE5.out
              case measure => simp [lenV]; omega
            · skip
              have HMORE := Lib.hid (MORE.out (by decide) (waits_ne (by decide)))
              have hor := or_i64 h0 h7 (k := 4) (by decide)
              obtain ⟨hor1, hor2, hor3⟩ := hor
              have hm4 : 1 ≤ m4 := by have := HM.out; simp [endL] at this; omega
              clear MORE STOP WAIT Q7 Q3 HM
              go_wp2_with (at_builtin; refine wpList_append_ints rfl (.tmp 54) (.tmp 55) rfl (w1.heap.size + 1) (.slice A3 (k2 + N) c3) (k2 + N) (zs ++ ys.take N) rfl (HO4.out.alloc _) (some ⟨w4.heap.size, 0, none⟩) 1 1 [10] rfl (lit1 w4 10 ok10) (by omega) (by simp; omega) ?_)
              intro v5 w5 ho5 hg5
              have ho5 : OwnI w5 (w1.heap.size + 1) v5 (k2 + N + 1) (zs ++ ys.take N ++ [10]) := by rw [List.append_assoc]; simpa using ho5
              have e5 := below_grown (HO4.out.alloc (.cells #[.int .i64 10] 3)) hg5 (by simp; omega)
              have HOK5 : Hid (∀ x ∈ zs ++ ys.take N ++ [10], okInt x) := fun x hx => by rcases List.mem_append.1 hx with h | h; (exact HOK3.out x h); (simp at h; subst h; exact ok10)
              obtain ⟨A5, c5, rfl, hc5, _⟩ := ho5.ints HOK5.out
              have s5 : w4.heap.size + 1 ≤ w5.heap.size := by have := e5.size; simp at this; omega
              have I5 := Lib.hid ((I4.out.alloc (by omega) (.cells #[.int .i64 10] 3)).below e5 (by omega)); have HX5 := Lib.hid ((HX4.out.alloc (.cells #[.int .i64 10] 3)).below e5 (by omega)); have HN5 := Lib.hid ((HN4.out.alloc (.cells #[.int .i64 10] 3)).below e5 (by omega)); have HE5 : Hid (Below w.heap.size w w5) := below_step e5 (HE4.out.alloc (by omega) _) (by omega); have HO5 := Lib.hid ho5
              clear ho5 hg5 e5 I4 HX4 HN4 HE4 HO4
              have n1 := (HN5.out.2 1 _ rfl).1; have z1 := (HN5.out.2 1 _ rfl).2
              go_wp2
              clear n1 z1
              go_roundw
              case rel =>
                refine ⟨_, _, _, [], A5, _, c5, zs ++ ys.take N ++ [10], orM s' 4, rfl, rfl, by omega, by omega, hor2, hor3, by simp; omega, ?_, ?_, HOK5, ?_, ?_, ?_, HMORE⟩
                · show Ints _ _ _ _ _ _
                  (try rw [Nat.sub_self])
                  exact (Ints.nil _ _ _ 0 _).1
                · show OwnI _ _ _ _ _
                  refine OwnI.set_ ?_ (by omega) _
                  exact HO5.out
                · show Box _ _ _
                  (repeat (with_reducible refine Box.set_ ?_ (by omega) _))
                  exact HX5.out
                · show Box _ _ _
                  have hx := HN5.out.put (i := 1) (by simp) (.int .i64 (orM s' 4))
                  simpa using hx
                · show Below _ _ _
                  (repeat (with_reducible refine below_set ?_ (by omega) _))
                  exact HE5.out
              case measure => simp [lenV]; omega
set_option maxHeartbeats 8000000 in
theorem madeOne_any {A : Option Addr} {n c : Nat} {xs : List Int} {held f : Bool} {s : Int} {w : World} {L B : Nat} (h : Ints w L B A n xs) (hB : B ≤ w.heap.size) (hnc : n ≤ c) (hn : n ≤ 1000) (h0 : 0 ≤ s) (h7 : s ≤ 7) :
    Calls Try.prog 43 #[.agg #[.bool held, .int .i64 s], .slice A n c, .bool f] w (NlPost (nlH held xs && !f) (nlS f held s xs) (nlM f held xs) w) := by
  cases held
  · exact madeOne_free h hB hnc hn h0 h7
  · exact madeOne_held h hB hnc hn h0 h7
end Go.Proofs.Ytlekbmlacinkdaa
