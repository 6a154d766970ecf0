/- The model's writeBytes: what is not written yet is a row of the call's own. -/
import Derived.Test.YtdiebkaedjlckaaDoorW1
import Derived.Deep.RegionLaw
import Derived.Deep.AppendLies
namespace Go.Proofs.YtdiebkaedjlckaaDoor
open Go.ChangeShapes Go.WideShapes Go.ChangeAt Go.RowKit
set_option linter.unusedSimpArgs false
set_option linter.unusedVariables false
set_option maxRecDepth 100000

theorem lit1W (w : World) (x : Int) (h : okInt x) : Ints (w.alloc (.cells #[.int .i64 x] 3)) w.heap.size (w.heap.size + 1) (some ⟨w.heap.size, 0, none⟩) 1 [x] :=
  ⟨rfl, by omega, (fun y hy => by simp at hy; subst hy; exact h), fun _ => ⟨w.heap.size, 0, rfl, Nat.le_refl _, Nat.lt_succ_self _, fun j y hy => by
    rw [Nat.zero_add]
    exact (Box.new w _ [.int .i64 x]).2 j (.int .i64 y) (by
      cases j with
      | zero => simp at hy ⊢; exact hy
      | succ j => simp at hy)⟩⟩
theorem Ints.cellAt {w : World} {lo hi n b o k : Nat} {xs : List Int} {x : Int} (h : Ints w lo hi (some ⟨b, o, none⟩) n xs) (hx : xs[k]? = some x) : w.cell? ⟨b, o + k, none⟩ = some (.int .i64 x) := by
  have hk := (List.getElem?_eq_some_iff.1 hx).1
  obtain ⟨b1, o1, e1, _, _, hc⟩ := h.2.2.2 (by have := h.len; omega)
  injection e1 with e1
  injection e1 with e2 e3 _
  subst e2; subst e3
  exact (hc k x hx).1
theorem tkGo_at {S L D R F' : List Int} {z j q N : Nat} {x p : Int} {F : Fv} (hx : L[j]? = some x) (h : (tkGo S z (L.drop j) D p q R).1 = F ∧ (tkGo S z (L.drop j) D p q R).2 + j = N) :
    ((tkStep S z D p q R).r.length = z → F = tkStep S z D p q R ∧ N = j) ∧ (¬ (tkStep S z D p q R).r.length = z → (tkGo S z (L.drop (j + 1)) (tkStep S z D p q R).d (tkStep S z D p q R).p (tkStep S z D p q R).q ((tkStep S z D p q R).r ++ [x])).1 = F ∧ (tkGo S z (L.drop (j + 1)) (tkStep S z D p q R).d (tkStep S z D p q R).p (tkStep S z D p q R).q ((tkStep S z D p q R).r ++ [x])).2 + (j + 1) = N) := by
  obtain ⟨hj, hx2⟩ := List.getElem?_eq_some_iff.1 hx
  have e : L.drop j = x :: L.drop (j + 1) := by rw [List.drop_eq_getElem_cons hj, hx2]
  rw [e] at h
  simp only [tkGo] at h
  refine ⟨fun hz => ?_, fun hz => ?_⟩
  · rw [if_pos hz] at h
    exact ⟨h.1.symm, by have := h.2; simp at this; omega⟩
  · rw [if_neg hz] at h
    exact ⟨h.1, by have := h.2; simp at this; omega⟩
/-- What the model's writeBytes gives. -/
def SWBPost (A0 : Option Addr) (n0 : Nat) (A' : Option Addr) (n' c' zn : Nat) (M C M2 C2 : Nat) (T : Fv) (N : Nat) (w : World) (e : Ending) (w' : World) : Prop :=
  ∃ A1 n1 c1 A5 n5 c5 M1 C1 M5 C5, e = .returned (.tuple #[.agg #[.slice (A1) n1 c1, .int .i64 (T.p), .slice (A') n' c', .int .i64 ((T.q : Int)), .slice (A5) n5 c5, .int .i64 ((zn : Int))], .int .i64 (N : Int), .int .i64 T.st]) ∧ (n1 ≤ c1 ∧ n5 ≤ c5) ∧ Below w.heap.size w w' ∧ Ints w' M1 C1 A1 n1 T.d ∧ RowI w' M5 C5 A5 n5 c5 T.r ∧ (C1 ≤ M5 ∧ C5 ≤ w'.heap.size ∧ M5 ≤ w'.heap.size) ∧
    ((M1 = M ∧ C1 = C ∧ A1 = A0 ∧ n1 = n0) ∨ w.heap.size ≤ M1) ∧ ((M5 = M2 ∧ C5 = C2) ∨ w.heap.size ≤ M5)
set_option maxHeartbeats 16000000 in
theorem sWriteBytes_row {A A' A2 AL : Option Addr} {n c n' c' n2 c2 nL cL q0 zn b : Nat} {D S R L : List Int} {p : Int} {w : World} {M C L' B' M2 C2 LL BL : Nat} (h : Ints w M C A n D) (h' : Ints w L' B' A' n' S) (g : RowI w M2 C2 A2 n2 c2 R) (hl : Ints w LL BL AL nL L)
    (hC : C ≤ w.heap.size) (hB' : B' ≤ w.heap.size) (hC2 : C2 ≤ w.heap.size) (hBL : BL ≤ w.heap.size) (hap : Apart A2 n2 A n) (hCM : C ≤ M2) (hM2w : M2 ≤ w.heap.size) (hnc : n ≤ c) (hn' : n' ≤ c') (hnL : nL ≤ cL) (hz : 1 ≤ zn ∧ zn ≤ 16) (hb9 : b ≤ 976) (hbz : 12 + zn + nL ≤ b) (hok : TkOk S zn b nL D p q0 R) (hL : allB L 0 255 = true) (hnL60 : nL ≤ 1000) :
    Calls Tryd.prog 51 #[.agg #[.slice (A) n c, .int .i64 (p), .slice (A') n' c', .int .i64 ((q0 : Int)), .slice (A2) n2 c2, .int .i64 ((zn : Int))], .slice AL nL cL] w (SWBPost A n A' n' c' zn M C M2 C2 (tkGo S zn L D p q0 R).1 (tkGo S zn L D p q0 R).2 w) := by
  obtain ⟨F, hF⟩ : ∃ F, (tkGo S zn L D p q0 R).1 = F := ⟨_, rfl⟩
  obtain ⟨N, hN⟩ : ∃ N, (tkGo S zn L D p q0 R).2 = N := ⟨_, rfl⟩
  rw [hF, hN]
  have HGO : Hid ((tkGo S zn (L.drop 0) D p q0 R).1 = F ∧ (tkGo S zn (L.drop 0) D p q0 R).2 + 0 = N) := ⟨hF, hN⟩
  have HOK : Hid (TkOk S zn b (nL - 0) D p q0 R) := hok
  have HS := Lib.hid h'
  have HLS := Lib.hid hl
  have HLB := Lib.hid hL
  have HAP := Lib.hid hap
  have hlL : nL ≤ L.length ∧ L.length ≤ nL := by have := hl.len; omega
  have D0 : Hid (Ints (((w.alloc (.cells #[.slice (A) n c, .int .i64 (p), .slice (A') n' c', .int .i64 ((q0 : Int)), .slice (A2) n2 c2, .int .i64 ((zn : Int))] 30)).alloc (.cells #[.slice none 0 0, .int .i64 0, .slice none 0 0, .int .i64 0, .slice none 0 0, .int .i64 0] 30))) M C A n D) := (h.alloc hC _).alloc (by first | omega | (simp; omega) | (simp; done)) _
  have G0 : Hid (RowI (((w.alloc (.cells #[.slice (A) n c, .int .i64 (p), .slice (A') n' c', .int .i64 ((q0 : Int)), .slice (A2) n2 c2, .int .i64 ((zn : Int))] 30)).alloc (.cells #[.slice none 0 0, .int .i64 0, .slice none 0 0, .int .i64 0, .slice none 0 0, .int .i64 0] 30))) M2 C2 A2 n2 c2 R) := (g.alloc hC2 _).alloc (by first | omega | (simp; omega) | (simp; done)) _
  have X0 : Hid (Box (((w.alloc (.cells #[.slice (A) n c, .int .i64 (p), .slice (A') n' c', .int .i64 ((q0 : Int)), .slice (A2) n2 c2, .int .i64 ((zn : Int))] 30)).alloc (.cells #[.slice none 0 0, .int .i64 0, .slice none 0 0, .int .i64 0, .slice none 0 0, .int .i64 0] 30))) w.heap.size [.slice (A) n c, .int .i64 (p), .slice (A') n' c', .int .i64 ((q0 : Int)), .slice (A2) n2 c2, .int .i64 ((zn : Int))]) := (Box.new w 30 [.slice (A) n c, .int .i64 (p), .slice (A') n' c', .int .i64 ((q0 : Int)), .slice (A2) n2 c2, .int .i64 ((zn : Int))]).alloc _
  have R0 : Hid (Box (((w.alloc (.cells #[.slice (A) n c, .int .i64 (p), .slice (A') n' c', .int .i64 ((q0 : Int)), .slice (A2) n2 c2, .int .i64 ((zn : Int))] 30)).alloc (.cells #[.slice none 0 0, .int .i64 0, .slice none 0 0, .int .i64 0, .slice none 0 0, .int .i64 0] 30))) (w.heap.size + 1) [.slice none 0 0, .int .i64 0, .slice none 0 0, .int .i64 0, .slice none 0 0, .int .i64 0]) := by
    have hx := Box.new (w.alloc (.cells #[.slice (A) n c, .int .i64 (p), .slice (A') n' c', .int .i64 ((q0 : Int)), .slice (A2) n2 c2, .int .i64 ((zn : Int))] 30)) 30 [.slice none 0 0, .int .i64 0, .slice none 0 0, .int .i64 0, .slice none 0 0, .int .i64 0]
    rw [World.size_alloc] at hx
    exact hx
  have E0 : Hid (Below w.heap.size w (((w.alloc (.cells #[.slice (A) n c, .int .i64 (p), .slice (A') n' c', .int .i64 ((q0 : Int)), .slice (A2) n2 c2, .int .i64 ((zn : Int))] 30)).alloc (.cells #[.slice none 0 0, .int .i64 0, .slice none 0 0, .int .i64 0, .slice none 0 0, .int .i64 0] 30)))) := (by go_grown : Below w.heap.size w _)
  have s0 : (((w.alloc (.cells #[.slice (A) n c, .int .i64 (p), .slice (A') n' c', .int .i64 ((q0 : Int)), .slice (A2) n2 c2, .int .i64 ((zn : Int))] 30)).alloc (.cells #[.slice none 0 0, .int .i64 0, .slice none 0 0, .int .i64 0, .slice none 0 0, .int .i64 0] 30))).heap.size = w.heap.size + 2 := by simp
  clear h g hF hN h' hap hok hl hL
  go_enter Tryd.func51, Tryd.ntmps51
  go_upto_region 1 with (fail)
  refine wp_renameW (fun w0 => Hid (Ints w0 M C A n D) ∧ Hid (RowI w0 M2 C2 A2 n2 c2 R) ∧ Hid (Box w0 w.heap.size [.slice (A) n c, .int .i64 (p), .slice (A') n' c', .int .i64 ((q0 : Int)), .slice (A2) n2 c2, .int .i64 ((zn : Int))]) ∧ Hid (Box w0 (w.heap.size + 1) [.slice none 0 0, .int .i64 0, .slice none 0 0, .int .i64 0, .slice none 0 0, .int .i64 0]) ∧ Hid (Below w.heap.size w w0) ∧ w0.heap.size = w.heap.size + 2) ⟨D0, G0, X0, R0, E0, s0⟩ ?_
  clear D0 G0 X0 R0 E0 s0
  rintro w0 ⟨D0, G0, X0, R0, E0, s0⟩
  go_wp2
  go_loopw [7] (fun v wr => ∃ (j : Nat) (A1 : Option Addr) (n1 c1 : Nat) (D1 : List Int) (p1 : Int) (q1 : Nat) (A5 : Option Addr) (n5 c5 : Nat) (R1 : List Int) (M1 C1 M5 C5 : Nat), v = .int .i64 (j : Int) ∧ j ≤ nL ∧ n1 ≤ c1 ∧ w.heap.size + 2 ≤ wr.heap.size ∧ C1 ≤ wr.heap.size ∧ C5 ≤ wr.heap.size ∧ C1 ≤ M5 ∧ M5 ≤ wr.heap.size ∧ ((M1 = M ∧ C1 = C ∧ A1 = A ∧ n1 = n) ∨ w.heap.size + 2 ≤ M1) ∧ ((M5 = M2 ∧ C5 = C2) ∨ w.heap.size + 2 ≤ M5) ∧ Hid (Apart A5 n5 A1 n1) ∧ Hid (Below w.heap.size w wr) ∧ Hid (Box wr w.heap.size [.slice (A1) n1 c1, .int .i64 (p1), .slice (A') n' c', .int .i64 ((q1 : Int)), .slice (A5) n5 c5, .int .i64 ((zn : Int))]) ∧ Hid (Box wr (w.heap.size + 1) [.slice none 0 0, .int .i64 0, .slice none 0 0, .int .i64 0, .slice none 0 0, .int .i64 0]) ∧ Hid (Ints wr M1 C1 A1 n1 D1) ∧ Hid (RowI wr M5 C5 A5 n5 c5 R1) ∧ Hid (TkOk S zn b (nL - j) D1 p1 q1 R1) ∧ Hid ((tkGo S zn (L.drop j) D1 p1 q1 R1).1 = F ∧ (tkGo S zn (L.drop j) D1 p1 q1 R1).2 + j = N)) (fun v _ => nL - (intOf v).toNat)
  case atStart => exact ⟨0, A, n, c, D, p, q0, A2, n2, c2, R, M, C, M2, C2, rfl, Nat.zero_le _, hnc, by omega, by omega, by omega, hCM, by omega, .inl ⟨rfl, rfl, rfl, rfl⟩, .inl ⟨rfl, rfl⟩, HAP, E0, X0, R0, D0, G0, HOK, HGO⟩
  case round =>
    clear D0 G0 X0 R0 E0 s0 HGO HOK HAP
    obtain ⟨j, A1, n1, c1, D1, p1, q1, A5, n5, c5, R1, M1, C1, M5, C5, rfl, hj, hc1, hsz, hC1, hC5, hM15, hM5w, hor1, hor5, hap, hb, hX, hR0, hD, hR5, hok, hgo⟩ := hrel
    have hl5 : n5 ≤ R1.length ∧ R1.length ≤ n5 := by have := hR5.out.len; omega
    have hc5 := hR5.out.cap
    by_cases hlt : j < nL
    · obtain ⟨bl, ol, x, rfl, _, _, hx⟩ := HLS.out.at_ hlt
      have hj0 : (0 : Int) ≤ (j : Int) := by omega
      have hj1 : (j : Int) < (nL : Int) := by omega
      have hx01 := allB_iff.1 HLB.out x (List.mem_of_getElem? hx.out)
      have okx : okInt x := by unfold okInt; omega
      obtain ⟨ga, gb⟩ := tkGo_at (F' := []) hx.out hgo.out
      have hok2 : TkOk S zn b ((nL - (j + 1)) + 1) D1 p1 q1 R1 := by have := hok.out; rwa [show nL - j = (nL - (j + 1)) + 1 by omega] at this
      obtain ⟨k1, k2, k3, k4, k5, k6, k7⟩ := hok2.step hz (by omega) (by omega)
      have hokk := hok.out
      obtain ⟨v1, v2, v3, v4, v5⟩ := hokk
      have HV1 := Lib.hid v1; have HV2 := Lib.hid v2
      have HLW := Lib.hid (HLS.out.below hb.out hBL)
      clear hgo hok hok2 v1 v2
      by_cases hfull : n5 = zn
      · have hKK : tkStep S zn D1 p1 q1 R1 = fuGo S R1.length D1 p1 q1 R1 := by unfold tkStep; rw [if_pos (by omega)]
        have hcall := flushed_row (c := c1) (c' := c') (z := (zn : Int)) hD.out (HS.out.below hb.out hB') hR5.out hC1 (by omega) hC5 hap.out hM15 hM5w hc1 hc5 HV1.out (by omega) (by omega) HV2.out
        obtain ⟨K, hK⟩ : ∃ K, fuGo S R1.length D1 p1 q1 R1 = K := ⟨_, rfl⟩
        rw [hK] at hcall hKK
        rw [hKK] at ga gb k1 k2 k3 k4 k5 k6 k7
        have HC := Lib.hid hcall; have GA := Lib.hid ga; have GB := Lib.hid gb; have K6 := Lib.hid k6
        clear hcall ga gb k6 k7 hK hKK
        have hfb : ((n5 : Int) == (zn : Int)) = true := by rw [beq_iff_eq]; omega
        have hfd : decide ((n5 : Int) = (zn : Int)) = true := decide_eq_true (by omega)
        have hle1 : n5 ≤ zn ∧ zn ≤ n5 := by omega
        clear hfull
        have x0 := (hX.out.2 0 _ rfl).1; have x1 := (hX.out.2 1 _ rfl).1; have x2 := (hX.out.2 2 _ rfl).1; have x3 := (hX.out.2 3 _ rfl).1; have x4 := (hX.out.2 4 _ rfl).1; have x5 := (hX.out.2 5 _ rfl).1
        go_wp2_with fail
        clear x0 x1 x2 x3 x4 x5
        with_reducible refine HC.out.mono ?_
        rintro e w1 ⟨A6, n6, c6, A7, n7, c7, M6, C6, M7, C7, rfl, ⟨hc6, hc7⟩, hb1, ⟨hi6, hi7⟩, ⟨hC6, hC7, hM67, hM7w⟩, hor6, hor7, hap7⟩
        have s1 := hb1.size
        have hl7 : n7 ≤ K.r.length ∧ K.r.length ≤ n7 := by have := hi7.len; omega
        have X1 := Lib.hid (hX.out.below hb1 (by omega)); have R01 := Lib.hid (hR0.out.below hb1 (by omega)); have E1 := Lib.hid (hb.out.trans (hb1.mono (by omega))); have D1b := Lib.hid hi6; have W1b := Lib.hid hi7; have L1b := Lib.hid (HLW.out.below hb1 (by have := hb.out.size; omega)); have AP1 := Lib.hid hap7
        have hor6b : (M6 = M ∧ C6 = C ∧ A6 = A ∧ n6 = n) ∨ w.heap.size + 2 ≤ M6 := by rcases hor6 with ⟨rfl, rfl, rfl, rfl⟩ | h; (exact hor1); (exact .inr (by omega))
        have hor7b : (M7 = M2 ∧ C7 = C2) ∨ w.heap.size + 2 ≤ M7 := by rcases hor7 with ⟨_, _, _, rfl, rfl⟩ | h; (exact hor5); (exact .inr (by omega))
        clear hb1 hi6 hi7 hap7 hor6 hor7 hX hR0 hb hD hR5 hap HC HLW
        go_upto_region 6 with (fail)
        refine wp_renameW (fun w2 => Hid (Box w2 w1.heap.size [.slice (A6) n6 c6, .int .i64 (K.p), .slice (A') n' c', .int .i64 ((K.q : Int)), .slice (A7) n7 c7, .int .i64 ((zn : Int))]) ∧ Hid (Box w2 w.heap.size [.slice (A1) n1 c1, .int .i64 (p1), .slice (A') n' c', .int .i64 ((q1 : Int)), .slice (A5) n5 c5, .int .i64 ((zn : Int))]) ∧ Hid (Box w2 (w.heap.size + 1) [.slice none 0 0, .int .i64 0, .slice none 0 0, .int .i64 0, .slice none 0 0, .int .i64 0]) ∧ Hid (Below w.heap.size w w2) ∧ Hid (Ints w2 M6 C6 A6 n6 K.d) ∧ Hid (RowI w2 M7 C7 A7 n7 c7 K.r) ∧ Hid (Ints w2 LL BL (some ⟨bl, ol, none⟩) nL L) ∧ w1.heap.size < w2.heap.size) ⟨Box.new w1 30 [.slice (A6) n6 c6, .int .i64 (K.p), .slice (A') n' c', .int .i64 ((K.q : Int)), .slice (A7) n7 c7, .int .i64 ((zn : Int))], X1.out.alloc _, R01.out.alloc _, E1.out.alloc (by omega) _, D1b.out.alloc hC6 _, W1b.out.alloc hC7 _, L1b.out.alloc (by have := E1.out.size; omega) _, by simp⟩ ?_
        clear X1 R01 E1 D1b W1b L1b
        rintro w2 ⟨Y2, X2, R02, E2, D2, W2, L2, s2⟩
        have y0 := (Y2.out.2 0 _ rfl).1; have y1 := (Y2.out.2 1 _ rfl).1; have y2 := (Y2.out.2 2 _ rfl).1; have y3 := (Y2.out.2 3 _ rfl).1; have y4 := (Y2.out.2 4 _ rfl).1; have y5 := (Y2.out.2 5 _ rfl).1
        have x0 := (X2.out.2 0 _ rfl).1; have x1 := (X2.out.2 1 _ rfl).1; have x2 := (X2.out.2 2 _ rfl).1; have x3 := (X2.out.2 3 _ rfl).1; have x4 := (X2.out.2 4 _ rfl).1; have x5 := (X2.out.2 5 _ rfl).1
        have f0 := (X2.out.2 0 _ rfl).2; have f1 := (X2.out.2 1 _ rfl).2; have f2 := (X2.out.2 2 _ rfl).2; have f3 := (X2.out.2 3 _ rfl).2; have f4 := (X2.out.2 4 _ rfl).2; have f5 := (X2.out.2 5 _ rfl).2
        go_upto_region 7 with (fail)
        clear y0 y1 y2 y3 y4 y5
        clear x0 x1 x2 x3 x4 x5
        clear f0 f1 f2 f3 f4 f5
        have hf6 : w.heap.size < M6 ∨ C6 ≤ w.heap.size := by rcases hor6b with ⟨_, rfl, _⟩ | h <;> omega
        have hf7 : w.heap.size < M7 ∨ C7 ≤ w.heap.size := by rcases hor7b with ⟨_, rfl⟩ | h <;> omega
        refine wp_renameW (fun w3 => Hid (Box w3 w.heap.size [.slice (A6) n6 c6, .int .i64 (K.p), .slice (A') n' c', .int .i64 ((K.q : Int)), .slice (A7) n7 c7, .int .i64 ((zn : Int))]) ∧ Hid (Box w3 (w.heap.size + 1) [.slice none 0 0, .int .i64 0, .slice none 0 0, .int .i64 0, .slice none 0 0, .int .i64 0]) ∧ Hid (Below w.heap.size w w3) ∧ Hid (Ints w3 M6 C6 A6 n6 K.d) ∧ Hid (RowI w3 M7 C7 A7 n7 c7 K.r) ∧ Hid (Ints w3 LL BL (some ⟨bl, ol, none⟩) nL L) ∧ w1.heap.size < w3.heap.size) ⟨?_, ?_, ?_, ?_, ?_, ?_, ?_⟩ ?_
        · have hx := (((((X2.out.put (i := 0) (by simp) (.slice A6 n6 c6)).put (i := 1) (by simp) (.int .i64 K.p)).put (i := 2) (by simp) (.slice A' n' c')).put (i := 3) (by simp) (.int .i64 (K.q : Int))).put (i := 4) (by simp) (.slice A7 n7 c7)).put (i := 5) (by simp) (.int .i64 (zn : Int))
          show Box _ _ _
          simpa using hx
        · show Box _ _ _
          (repeat (with_reducible refine Box.set_ ?_ (by omega) _))
          exact R02.out
        · show Below _ _ _
          (repeat (with_reducible refine below_set ?_ (by omega) _))
          exact E2.out
        · show Ints _ _ _ _ _ _
          (repeat (with_reducible refine Ints.set_ ?_ (by omega) _))
          exact D2.out
        · show RowI _ _ _ _ _ _ _
          (repeat (with_reducible refine RowI.set_ ?_ (by omega) _))
          exact W2.out
        · show Ints _ _ _ _ _ _
          (repeat (with_reducible refine Ints.set_ ?_ (by omega) _))
          exact L2.out
        · simp only [World.size_setCell]; omega
        clear Y2 X2 R02 E2 D2 W2 L2 s2
        rintro w3 ⟨X3, R03, E3, D3, W3, L3, s3⟩
        by_cases hst : n7 = zn
        · have hGA := GA.out (by omega)
          have hz7 : n7 ≤ zn ∧ zn ≤ n7 := by omega
          obtain ⟨rfl, rfl⟩ := hGA
          have hfb : ((n7 : Int) == (zn : Int)) = true := by rw [beq_iff_eq]; omega
          have hfd : decide ((n7 : Int) = (zn : Int)) = true := decide_eq_true (by omega)
          clear hst
          have x0 := (X3.out.2 0 _ rfl).1; have x1 := (X3.out.2 1 _ rfl).1; have x2 := (X3.out.2 2 _ rfl).1; have x3 := (X3.out.2 3 _ rfl).1; have x4 := (X3.out.2 4 _ rfl).1; have x5 := (X3.out.2 5 _ rfl).1
          have r0 := (R03.out.2 0 _ rfl).1; have r1 := (R03.out.2 1 _ rfl).1; have r2 := (R03.out.2 2 _ rfl).1; have r3 := (R03.out.2 3 _ rfl).1; have r4 := (R03.out.2 4 _ rfl).1; have r5 := (R03.out.2 5 _ rfl).1
          have g0 := (R03.out.2 0 _ rfl).2; have g1 := (R03.out.2 1 _ rfl).2; have g2 := (R03.out.2 2 _ rfl).2; have g3 := (R03.out.2 3 _ rfl).2; have g4 := (R03.out.2 4 _ rfl).2; have g5 := (R03.out.2 5 _ rfl).2
          go_wp2
          refine bodyPost_ret (v := .tuple #[.agg #[.slice (A6) n6 c6, .int .i64 (F.p), .slice (A') n' c', .int .i64 ((F.q : Int)), .slice (A7) n7 c7, .int .i64 ((zn : Int))], .int .i64 (N : Int), .int .i64 F.st]) (by simp [results, Tryd.results51, go_sem, r0, r1, r2, r3, r4, r5, g0, g1, g2, g3, g4, g5]) rfl ?_
          refine ⟨A6, n6, c6, A7, n7, c7, M6, C6, M7, C7, rfl, ⟨hc6, hc7⟩, ?_, ?_, ?_, ⟨hM67, by simp only [World.size_setCell]; omega, by simp only [World.size_setCell]; omega⟩, ?_, ?_⟩
          · (repeat (with_reducible refine below_set ?_ (by omega) _))
            exact E3.out
          · have hf : w.heap.size + 1 < M6 ∨ C6 ≤ w.heap.size + 1 := by rcases hor6b with ⟨_, rfl, _⟩ | h <;> omega
            (repeat (with_reducible refine Ints.set_ ?_ (by omega) _))
            exact D3.out
          · have hf : w.heap.size + 1 < M7 ∨ C7 ≤ w.heap.size + 1 := by rcases hor7b with ⟨_, rfl⟩ | h <;> omega
            (repeat (with_reducible refine RowI.set_ ?_ (by omega) _))
            exact W3.out
          · rcases hor6b with h | h
            · exact .inl h
            · exact .inr (by omega)
          · rcases hor7b with h | h
            · exact .inl h
            · exact .inr (by omega)
        · have HGB := Lib.hid (GB.out (by omega)); have HKO := Lib.hid (K6.out (by omega) x hx01.1 hx01.2)
          have hsi : ¬ (n7 : Int) = (zn : Int) := by omega
          have hsi2 : ((n7 : Int) == (zn : Int)) = false := by simpa using hsi
          clear GA GB K6
          obtain ⟨i0, hi0, hz0, hz1, hz2⟩ := info_parts infoInt
          have HRI := Lib.hid W3.out.ints
          have kW := Ints.cellAt L3.out hx.out
          have xA := ((X3.out.alloc (.cells #[.int .i64 x] 3)).2 4 _ rfl).1
          have x0 := (X3.out.2 0 _ rfl).1; have x1 := (X3.out.2 1 _ rfl).1; have x2 := (X3.out.2 2 _ rfl).1; have x3 := (X3.out.2 3 _ rfl).1; have x4 := (X3.out.2 4 _ rfl).1; have x5 := (X3.out.2 5 _ rfl).1
          go_wp2_with fail
          go_region_law (first | (go_simp; go_at_call 88; (with_reducible refine (copyInts_row (w := w3.drew) HRI.out.drew (by first | omega | (simp; omega) | (simp; done)) (by first | omega | (simp; omega) | (simp; done))).mono ?_); rintro e w9 ⟨A8, n8, c8, rfl, hc8, hb2, hr8⟩; have HB2 : Hid (Below w3.heap.size w3 w9) := below_step hb2 (Below.refl w3.heap.size w3).drew (by first | omega | (simp; omega) | (simp; done)); have HR8 := Lib.hid (hr8.more (lo' := w3.heap.size) (hi' := w9.heap.size) (by first | omega | (simp; omega) | (simp; done)) (Nat.le_refl _)); have HRO := Lib.hid HR8.out.own; have hn8 : n8 ≤ K.r.length := Nat.le_of_eq hr8.len; have s9 := HB2.out.size; have kX := Ints.cellAt (L3.out.below HB2.out (by omega)) hx.out; clear hb2 hr8 hc8) | (go_simp; go_at_call 88; (with_reducible refine (copyInts_row (w := (w3.alloc (.cells #[.int .i64 x] 3)).drew) (HRI.out.alloc (by first | omega | (simp; omega) | (simp; done)) (.cells #[.int .i64 x] 3)).drew (by first | omega | (simp; omega) | (simp; done)) (by first | omega | (simp; omega) | (simp; done))).mono ?_); rintro e w9 ⟨A8, n8, c8, rfl, hc8, hb2, hr8⟩; have HB2 : Hid (Below w3.heap.size w3 w9) := below_step hb2 ((Below.refl w3.heap.size w3).alloc (Nat.le_refl _) (.cells #[.int .i64 x] 3)).drew (by first | omega | (simp; omega) | (simp; done)); have HR8 := Lib.hid (hr8.more (lo' := w3.heap.size) (hi' := w9.heap.size) (by first | omega | (simp; omega) | (simp; done)) (Nat.le_refl _)); have HRO := Lib.hid HR8.out.own; have hn8 : n8 ≤ K.r.length := Nat.le_of_eq hr8.len; have s9 := HB2.out.size; have kX := Ints.cellAt (L3.out.below HB2.out (by omega)) hx.out; have HLT := Lib.hid ((lit1W w3 x okx).drew.below hb2 (by first | omega | (simp; omega) | (simp; done))); clear hb2 hr8 hc8) | (refine step_append_lies _ rfl (.tmp 39) (.tmp 44) 22 rfl w3.heap.size 3 i0 (.int .i64 0) 1 8 Tryd.underlying22 hi0 hz0 hz1 hz2 rfl (by decide) (.slice A8 n8 c8) n8 (K.r.map (Value.int .i64)) rfl (HRO.out.alloc (.cells #[.int .i64 x] 3)) ⟨w9.heap.size, 0, none⟩ 1 1 [.int .i64 x] rfl rfl (fun j u hu => intsCells (lit1W w9 x okx) j u hu) (by simp [Value.oneCell']) (by decide) (by unfold maxLen; omega) (by omega) (by first | omega | (simp; omega) | (simp; done)) _ rfl ?_; intro gg cap wA hown hgrow hat hgl; have HBA : Hid (Below w3.heap.size w3 wA) := (HB2.out.trans (Below.alloc (Below.refl _ _) (by omega) (.cells #[.int .i64 x] 3))).trans (below_grown (HRO.out.alloc (.cells #[.int .i64 x] 3)) hgrow (by first | omega | (simp; omega) | (simp; done))); have HOA : Hid (OwnI wA w3.heap.size (.slice (some ⟨gg, 0, none⟩) (n8 + 1) cap) (n8 + 1) (K.r ++ [x])) := (by show OwnI _ _ _ _ _; unfold OwnI; rw [List.map_append]; exact hown); have XA := Lib.hid (X3.out.below HBA.out (by omega)); clear x0 x1 x2 x3 x4 x5; have x0 := (XA.out.2 0 _ rfl).1; have x1 := (XA.out.2 1 _ rfl).1; have x2 := (XA.out.2 2 _ rfl).1; have x3 := (XA.out.2 3 _ rfl).1; have x4 := (XA.out.2 4 _ rfl).1; have x5 := (XA.out.2 5 _ rfl).1; have f0 := (XA.out.2 0 _ rfl).2; have f1 := (XA.out.2 1 _ rfl).2; have f2 := (XA.out.2 2 _ rfl).2; have f3 := (XA.out.2 3 _ rfl).2; have f4 := (XA.out.2 4 _ rfl).2; have f5 := (XA.out.2 5 _ rfl).2; clear hown hgrow hat) | (refine step_append_lies _ rfl (.tmp 39) (.tmp 44) 22 rfl w3.heap.size 3 i0 (.int .i64 0) 1 8 Tryd.underlying22 hi0 hz0 hz1 hz2 rfl (by decide) (.slice A8 n8 c8) n8 (K.r.map (Value.int .i64)) rfl (HRO.out) ⟨w3.heap.size, 0, none⟩ 1 1 [.int .i64 x] rfl rfl (fun j u hu => intsCells (HLT.out) j u hu) (by simp [Value.oneCell']) (by decide) (by unfold maxLen; omega) (by omega) (by first | omega | (simp; omega) | (simp; done)) _ rfl ?_; intro gg cap wA hown hgrow hat hgl; have HBA : Hid (Below w3.heap.size w3 wA) := HB2.out.trans (below_grown HRO.out hgrow (by first | omega | (simp; omega) | (simp; done))); have HOA : Hid (OwnI wA w3.heap.size (.slice (some ⟨gg, 0, none⟩) (n8 + 1) cap) (n8 + 1) (K.r ++ [x])) := (by show OwnI _ _ _ _ _; unfold OwnI; rw [List.map_append]; exact hown); have XA := Lib.hid (X3.out.below HBA.out (by omega)); clear x0 x1 x2 x3 x4 x5; have x0 := (XA.out.2 0 _ rfl).1; have x1 := (XA.out.2 1 _ rfl).1; have x2 := (XA.out.2 2 _ rfl).1; have x3 := (XA.out.2 3 _ rfl).1; have x4 := (XA.out.2 4 _ rfl).1; have x5 := (XA.out.2 5 _ rfl).1; have f0 := (XA.out.2 0 _ rfl).2; have f1 := (XA.out.2 1 _ rfl).2; have f2 := (XA.out.2 2 _ rfl).2; have f3 := (XA.out.2 3 _ rfl).2; have f4 := (XA.out.2 4 _ rfl).2; have f5 := (XA.out.2 5 _ rfl).2; clear hown hgrow hat))
          all_goals
            have sA := HBA.out.size
            have DA := Lib.hid (D3.out.below HBA.out (by omega))
            have RA0 := Lib.hid (R03.out.below HBA.out (by omega))
            have EA := Lib.hid (E3.out.trans (HBA.out.mono (by omega)))
            have hokA : ∀ y ∈ K.r ++ [x], okInt y := fun y hy => by
              rcases List.mem_append.1 hy with h | h
              · exact W3.out.ok y h
              · simp at h; subst h; exact okx
            have ROWA : Hid (RowI wA w3.heap.size wA.heap.size (some ⟨gg, 0, none⟩) (n8 + 1) cap (K.r ++ [x])) := RowI.of_own HOA.out hokA fun k hk => HOA.out.lt k hk
            go_wp2
            go_roundw
            case rel =>
              refine ⟨j + 1, A6, n6, c6, K.d, K.p, K.q, some ⟨gg, 0, none⟩, n8 + 1, cap, K.r ++ [x], M6, C6, w3.heap.size, wA.heap.size, by go_num, by omega, by omega, by simp only [World.size_setCell, World.size_drew]; omega, by simp only [World.size_setCell, World.size_drew]; omega, by simp only [World.size_setCell, World.size_drew]; omega, by omega, by simp only [World.size_setCell, World.size_drew]; omega, hor6b, .inr (by omega), ?_, ?_, ?_, ?_, ?_, ?_, HKO, HGB⟩
              · show Apart _ _ _ _
                exact (Apart.of_le DA.out ROWA.out.ints (by omega)).symm
              · show Below _ _ _
                (repeat (with_reducible refine below_set ?_ (by omega) _))
                exact EA.out
              · show Box _ _ _
                have hx := XA.out.put (i := 4) (by simp) (.slice (some ⟨gg, 0, none⟩) (n8 + 1) cap)
                simpa using hx
              · show Box _ _ _
                (repeat (with_reducible refine Box.set_ ?_ (by omega) _))
                exact RA0.out
              · show Ints _ _ _ _ _ _
                have hf : w.heap.size < M6 ∨ C6 ≤ w.heap.size := by rcases hor6b with ⟨_, rfl, _⟩ | h <;> omega
                (repeat (with_reducible refine Ints.set_ ?_ (by omega) _))
                exact DA.out
              · show RowI _ _ _ _ _ _ _
                (repeat (with_reducible refine RowI.set_ ?_ (by omega) _))
                exact ROWA.out
            case measure => simp [intOf]; omega
      · have hKK : tkStep S zn D1 p1 q1 R1 = ⟨D1, p1, q1, R1, 0⟩ := by unfold tkStep; rw [if_neg (by omega)]
        rw [hKK] at gb k6
        have HGB := Lib.hid (gb (by show ¬ R1.length = zn; omega)); have HKO := Lib.hid (k6 (by show ¬ R1.length = zn; omega) x hx01.1 hx01.2)
        have hsi : ¬ (n5 : Int) = (zn : Int) := by omega
        have hsi2 : ((n5 : Int) == (zn : Int)) = false := by simpa using hsi
        clear ga gb k1 k2 k3 k4 k5 k6 k7 hKK
        obtain ⟨i0, hi0, hz0, hz1, hz2⟩ := info_parts infoInt
        have HRI := Lib.hid hR5.out.ints
        have kW := Ints.cellAt HLW.out hx.out
        have xA := ((hX.out.alloc (.cells #[.int .i64 x] 3)).2 4 _ rfl).1
        have x0 := (hX.out.2 0 _ rfl).1; have x1 := (hX.out.2 1 _ rfl).1; have x2 := (hX.out.2 2 _ rfl).1; have x3 := (hX.out.2 3 _ rfl).1; have x4 := (hX.out.2 4 _ rfl).1; have x5 := (hX.out.2 5 _ rfl).1
        go_wp2_with fail
        go_region_law (first | (go_simp; go_at_call 88; (with_reducible refine (copyInts_row (w := wr.drew) HRI.out.drew (by first | omega | (simp; omega) | (simp; done)) (by first | omega | (simp; omega) | (simp; done))).mono ?_); rintro e w9 ⟨A8, n8, c8, rfl, hc8, hb2, hr8⟩; have HB2 : Hid (Below wr.heap.size wr w9) := below_step hb2 (Below.refl wr.heap.size wr).drew (by first | omega | (simp; omega) | (simp; done)); have HR8 := Lib.hid (hr8.more (lo' := wr.heap.size) (hi' := w9.heap.size) (by first | omega | (simp; omega) | (simp; done)) (Nat.le_refl _)); have HRO := Lib.hid HR8.out.own; have hn8 : n8 ≤ R1.length := Nat.le_of_eq hr8.len; have s9 := HB2.out.size; have kX := Ints.cellAt (HLW.out.below HB2.out (by omega)) hx.out; clear hb2 hr8 hc8) | (go_simp; go_at_call 88; (with_reducible refine (copyInts_row (w := (wr.alloc (.cells #[.int .i64 x] 3)).drew) (HRI.out.alloc (by first | omega | (simp; omega) | (simp; done)) (.cells #[.int .i64 x] 3)).drew (by first | omega | (simp; omega) | (simp; done)) (by first | omega | (simp; omega) | (simp; done))).mono ?_); rintro e w9 ⟨A8, n8, c8, rfl, hc8, hb2, hr8⟩; have HB2 : Hid (Below wr.heap.size wr w9) := below_step hb2 ((Below.refl wr.heap.size wr).alloc (Nat.le_refl _) (.cells #[.int .i64 x] 3)).drew (by first | omega | (simp; omega) | (simp; done)); have HR8 := Lib.hid (hr8.more (lo' := wr.heap.size) (hi' := w9.heap.size) (by first | omega | (simp; omega) | (simp; done)) (Nat.le_refl _)); have HRO := Lib.hid HR8.out.own; have hn8 : n8 ≤ R1.length := Nat.le_of_eq hr8.len; have s9 := HB2.out.size; have kX := Ints.cellAt (HLW.out.below HB2.out (by omega)) hx.out; have HLT := Lib.hid ((lit1W wr x okx).drew.below hb2 (by first | omega | (simp; omega) | (simp; done))); clear hb2 hr8 hc8) | (refine step_append_lies _ rfl (.tmp 39) (.tmp 44) 22 rfl wr.heap.size 3 i0 (.int .i64 0) 1 8 Tryd.underlying22 hi0 hz0 hz1 hz2 rfl (by decide) (.slice A8 n8 c8) n8 (R1.map (Value.int .i64)) rfl (HRO.out.alloc (.cells #[.int .i64 x] 3)) ⟨w9.heap.size, 0, none⟩ 1 1 [.int .i64 x] rfl rfl (fun j u hu => intsCells (lit1W w9 x okx) j u hu) (by simp [Value.oneCell']) (by decide) (by unfold maxLen; omega) (by omega) (by first | omega | (simp; omega) | (simp; done)) _ rfl ?_; intro gg cap wA hown hgrow hat hgl; have HBA : Hid (Below wr.heap.size wr wA) := (HB2.out.trans (Below.alloc (Below.refl _ _) (by omega) (.cells #[.int .i64 x] 3))).trans (below_grown (HRO.out.alloc (.cells #[.int .i64 x] 3)) hgrow (by first | omega | (simp; omega) | (simp; done))); have HOA : Hid (OwnI wA wr.heap.size (.slice (some ⟨gg, 0, none⟩) (n8 + 1) cap) (n8 + 1) (R1 ++ [x])) := (by show OwnI _ _ _ _ _; unfold OwnI; rw [List.map_append]; exact hown); have XA := Lib.hid (hX.out.below HBA.out (by omega)); clear x0 x1 x2 x3 x4 x5; have x0 := (XA.out.2 0 _ rfl).1; have x1 := (XA.out.2 1 _ rfl).1; have x2 := (XA.out.2 2 _ rfl).1; have x3 := (XA.out.2 3 _ rfl).1; have x4 := (XA.out.2 4 _ rfl).1; have x5 := (XA.out.2 5 _ rfl).1; have f0 := (XA.out.2 0 _ rfl).2; have f1 := (XA.out.2 1 _ rfl).2; have f2 := (XA.out.2 2 _ rfl).2; have f3 := (XA.out.2 3 _ rfl).2; have f4 := (XA.out.2 4 _ rfl).2; have f5 := (XA.out.2 5 _ rfl).2; clear hown hgrow hat) | (refine step_append_lies _ rfl (.tmp 39) (.tmp 44) 22 rfl wr.heap.size 3 i0 (.int .i64 0) 1 8 Tryd.underlying22 hi0 hz0 hz1 hz2 rfl (by decide) (.slice A8 n8 c8) n8 (R1.map (Value.int .i64)) rfl (HRO.out) ⟨wr.heap.size, 0, none⟩ 1 1 [.int .i64 x] rfl rfl (fun j u hu => intsCells (HLT.out) j u hu) (by simp [Value.oneCell']) (by decide) (by unfold maxLen; omega) (by omega) (by first | omega | (simp; omega) | (simp; done)) _ rfl ?_; intro gg cap wA hown hgrow hat hgl; have HBA : Hid (Below wr.heap.size wr wA) := HB2.out.trans (below_grown HRO.out hgrow (by first | omega | (simp; omega) | (simp; done))); have HOA : Hid (OwnI wA wr.heap.size (.slice (some ⟨gg, 0, none⟩) (n8 + 1) cap) (n8 + 1) (R1 ++ [x])) := (by show OwnI _ _ _ _ _; unfold OwnI; rw [List.map_append]; exact hown); have XA := Lib.hid (hX.out.below HBA.out (by omega)); clear x0 x1 x2 x3 x4 x5; have x0 := (XA.out.2 0 _ rfl).1; have x1 := (XA.out.2 1 _ rfl).1; have x2 := (XA.out.2 2 _ rfl).1; have x3 := (XA.out.2 3 _ rfl).1; have x4 := (XA.out.2 4 _ rfl).1; have x5 := (XA.out.2 5 _ rfl).1; have f0 := (XA.out.2 0 _ rfl).2; have f1 := (XA.out.2 1 _ rfl).2; have f2 := (XA.out.2 2 _ rfl).2; have f3 := (XA.out.2 3 _ rfl).2; have f4 := (XA.out.2 4 _ rfl).2; have f5 := (XA.out.2 5 _ rfl).2; clear hown hgrow hat))
        all_goals
          have sA := HBA.out.size
          have DA := Lib.hid (hD.out.below HBA.out (by omega))
          have RA0 := Lib.hid (hR0.out.below HBA.out (by omega))
          have EA := Lib.hid (hb.out.trans (HBA.out.mono (by omega)))
          have hokA : ∀ y ∈ R1 ++ [x], okInt y := fun y hy => by
            rcases List.mem_append.1 hy with h | h
            · exact hR5.out.ok y h
            · simp at h; subst h; exact okx
          have ROWA : Hid (RowI wA wr.heap.size wA.heap.size (some ⟨gg, 0, none⟩) (n8 + 1) cap (R1 ++ [x])) := RowI.of_own HOA.out hokA fun k hk => HOA.out.lt k hk
          go_wp2
          go_roundw
          case rel =>
            refine ⟨j + 1, A1, n1, c1, D1, p1, q1, some ⟨gg, 0, none⟩, n8 + 1, cap, R1 ++ [x], M1, C1, wr.heap.size, wA.heap.size, by go_num, by omega, by omega, by simp only [World.size_setCell, World.size_drew]; omega, by simp only [World.size_setCell, World.size_drew]; omega, by simp only [World.size_setCell, World.size_drew]; omega, by omega, by simp only [World.size_setCell, World.size_drew]; omega, hor1, .inr (by omega), ?_, ?_, ?_, ?_, ?_, ?_, HKO, HGB⟩
            · show Apart _ _ _ _
              exact (Apart.of_le DA.out ROWA.out.ints (by omega)).symm
            · show Below _ _ _
              (repeat (with_reducible refine below_set ?_ (by omega) _))
              exact EA.out
            · show Box _ _ _
              have hx := XA.out.put (i := 4) (by simp) (.slice (some ⟨gg, 0, none⟩) (n8 + 1) cap)
              simpa using hx
            · show Box _ _ _
              (repeat (with_reducible refine Box.set_ ?_ (by omega) _))
              exact RA0.out
            · show Ints _ _ _ _ _ _
              have hf : w.heap.size < M1 ∨ C1 ≤ w.heap.size := by rcases hor1 with ⟨_, rfl, _⟩ | h <;> omega
              (repeat (with_reducible refine Ints.set_ ?_ (by omega) _))
              exact DA.out
            · show RowI _ _ _ _ _ _ _
              (repeat (with_reducible refine RowI.set_ ?_ (by omega) _))
              exact ROWA.out
          case measure => simp [intOf]; omega
    · obtain rfl : j = nL := by omega
      have hgo2 := hgo.out
      rw [List.drop_of_length_le (by omega)] at hgo2
      have hF : F = ⟨D1, p1, q1, R1, 0⟩ := hgo2.1.symm
      have hN : N = j := by have := hgo2.2; simp [tkGo] at this; omega
      clear hlL
      subst hF; subst hN
      clear hgo2 hgo
      have hni : ¬ (N : Int) < (N : Int) := by omega
      have x0 := (hX.out.2 0 _ rfl).1; have x1 := (hX.out.2 1 _ rfl).1; have x2 := (hX.out.2 2 _ rfl).1; have x3 := (hX.out.2 3 _ rfl).1; have x4 := (hX.out.2 4 _ rfl).1; have x5 := (hX.out.2 5 _ rfl).1
      have r0 := (hR0.out.2 0 _ rfl).1; have r1 := (hR0.out.2 1 _ rfl).1; have r2 := (hR0.out.2 2 _ rfl).1; have r3 := (hR0.out.2 3 _ rfl).1; have r4 := (hR0.out.2 4 _ rfl).1; have r5 := (hR0.out.2 5 _ rfl).1
      have g0 := (hR0.out.2 0 _ rfl).2; have g1 := (hR0.out.2 1 _ rfl).2; have g2 := (hR0.out.2 2 _ rfl).2; have g3 := (hR0.out.2 3 _ rfl).2; have g4 := (hR0.out.2 4 _ rfl).2; have g5 := (hR0.out.2 5 _ rfl).2
      go_wp2
      refine bodyPost_ret (v := .tuple #[.agg #[.slice (A1) n1 c1, .int .i64 (p1), .slice (A') n' c', .int .i64 ((q1 : Int)), .slice (A5) n5 c5, .int .i64 ((zn : Int))], .int .i64 (N : Int), .int .i64 0]) (by simp [results, Tryd.results51, go_sem, r0, r1, r2, r3, r4, r5, g0, g1, g2, g3, g4, g5]) rfl ?_
      refine ⟨A1, n1, c1, A5, n5, c5, M1, C1, M5, C5, rfl, ⟨hc1, hc5⟩, ?_, ?_, ?_, ⟨hM15, by simp only [World.size_setCell]; omega, by simp only [World.size_setCell]; omega⟩, ?_, ?_⟩
      · (repeat (with_reducible refine below_set ?_ (by omega) _))
        exact hb.out
      · have hf : w.heap.size + 1 < M1 ∨ C1 ≤ w.heap.size + 1 := by rcases hor1 with ⟨_, rfl, _⟩ | h <;> omega
        (repeat (with_reducible refine Ints.set_ ?_ (by omega) _))
        exact hD.out
      · have hf : w.heap.size + 1 < M5 ∨ C5 ≤ w.heap.size + 1 := by rcases hor5 with ⟨_, rfl⟩ | h <;> omega
        (repeat (with_reducible refine RowI.set_ ?_ (by omega) _))
        exact hR5.out
      · rcases hor1 with h | h
        · exact .inl h
        · exact .inr (by omega)
      · rcases hor5 with h | h
        · exact .inl h
        · exact .inr (by omega)
end Go.Proofs.YtdiebkaedjlckaaDoor
