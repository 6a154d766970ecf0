/- A writer's seek, the program's; SeekWriter. -/
import Derived.Test.YtdgfcbnfhengiaaDoorC3d
import Derived.Test.YtdgfcbnfhengiaaDoorC1h
namespace Go.Proofs.YtdgfcbnfhengiaaDoor
open Go.ChangeShapes Go.WideShapes Go.ChangeAt Go.RowKit
set_option linter.unusedSimpArgs false
set_option linter.unusedVariables false
set_option maxRecDepth 10000

/-- The error of a place that is none is laid, too. -/
def ErrsS (w : World) (B : Nat) (a0 a1 a2 a3 : Addr) : Prop := Errs4 w B a0 a1 a2 a3 ∧ 3 < B ∧ w.cell? ⟨3, 0, none⟩ = some (errAt a3)
theorem ErrsS.blocks {w w' : World} {B : Nat} {a0 a1 a2 a3 : Addr} (h : ErrsS w B a0 a1 a2 a3) (hk : ∀ k, k < B → w'.heap[k]? = w.heap[k]?) : ErrsS w' B a0 a1 a2 a3 := by
  obtain ⟨⟨h0, h1, h2, h3, _⟩, h4, h5⟩ := h
  have h6 : w'.cell? ⟨3, 0, none⟩ = some (errAt a3) := (World.cell?_of_block (w := w) (a := ⟨3, 0, none⟩) (hk 3 h4)).trans h5
  exact ⟨⟨h0.blocks hk, h1, by rw [hk _ h1]; exact h2, h3, _, h4, h6⟩, h4, h6⟩
theorem ErrsS.below {w w' : World} {B C : Nat} {a0 a1 a2 a3 : Addr} (h : ErrsS w B a0 a1 a2 a3) (hb : Below C w w') (hB : B ≤ C) : ErrsS w' B a0 a1 a2 a3 := h.blocks fun k hk => hb.block k (by omega)
theorem ErrsS.turn {w w' : World} {B C b : Nat} {a0 a1 a2 a3 : Addr} (h : ErrsS w B a0 a1 a2 a3) (hb : Turn C b w w') (hB : B ≤ C) (hbB : B ≤ b) : ErrsS w' B a0 a1 a2 a3 := h.blocks fun k hk => hb.2.2.2.2 k (by omega) (by omega)
theorem errsS_of {W : World} {a0 a1 a2 a3 : Addr} (h : Errs W W.heap.size a0 a1 a2) (h3 : W.var? Tryd.prog "loop.example/streamlayers/impl.errPlace" = some #[errAt a3]) (n03 : a0 ≠ a3) (n13 : a1 ≠ a3) (n23 : a2 ≠ a3) (r3 : ∃ c t, W.heap[a3.block]? = some (.cells c t (0, 0))) : ErrsS W W.heap.size a0 a1 a2 a3 := by
  have g3 : W.cell? ⟨3, 0, none⟩ = some (errAt a3) := by simpa using World.var?_cell (P := Tryd.prog) (by kernel_rfl) h3 0
  have l3 := World.block_lt_of_cell? _ _ g3
  have lt : a3.block < W.heap.size := by
    obtain ⟨c, t, h⟩ := r3
    exact (Array.getElem?_eq_some_iff.1 h).1
  exact ⟨⟨h, lt, r3, ⟨Ne.symm n03, Ne.symm n13, Ne.symm n23⟩, _, l3, g3⟩, l3, g3⟩
/-- The error of a way in which a seek ends. -/
def errS (a0 a1 a2 a3 : Addr) (k : Int) : Value := if k = 5 then errAt a3 else errV a0 a1 a2 k
theorem errS_st {a0 a1 a2 a3 : Addr} {k : Int} (h : endSt k) : errS a0 a1 a2 a3 k = errV a0 a1 a2 k := by
  unfold errS
  rw [if_neg (by unfold endSt at h; omega)]
theorem endOfS_any {w : World} {B : Nat} {a0 a1 a2 a3 : Addr} {k : Int} (h : ErrsS w B a0 a1 a2 a3) (hk : endSt k ∨ k = 5) :
    Calls Tryd.prog 58 #[errS a0 a1 a2 a3 k] w fun e w' => e = .returned (.int .i64 k) ∧ w = w' := by
  rcases hk with hk | rfl
  · rw [errS_st hk]
    exact endOf_any h.1.1 hk
  · exact endOf_place h.1
/-- What a seek leaves, and how it ends. -/
def bsT (T : Fv) (off wh : Int) : Fv := if T.st = 0 ∧ seekOk (seekAt T.d.length T.p off wh) = true then { T with p := seekTo (seekAt T.d.length T.p off wh) } else T
def bsE (T : Fv) (off wh : Int) : Int := if T.st = 0 then (if seekOk (seekAt T.d.length T.p off wh) then 0 else 5) else T.st
theorem bsE_end {T : Fv} {off wh : Int} (h : endSt T.st) : endSt (bsE T off wh) ∨ bsE T off wh = 5 := by
  unfold bsE
  split
  · split
    · exact .inl (.inl rfl)
    · exact .inr rfl
  · exact .inl h
theorem bsT_valid {T : Fv} {S : List Int} {off wh : Int} (h : validD T.d T.p S (T.q : Int) = true) : validD (bsT T off wh).d (bsT T off wh).p S ((bsT T off wh).q : Int) = true := by
  unfold bsT
  split
  · obtain ⟨v1, v2, v3, v4, v5⟩ := validD_iff.1 h
    exact validD_iff.2 ⟨v1, v2, v3, seekTo_in, v5⟩
  · exact h
theorem bsT_r (T : Fv) (off wh : Int) : (bsT T off wh).r = T.r := by unfold bsT; split <;> rfl
def swOut (D : List Int) (p : Int) (S : List Int) (q : Int) (R : List Int) (z off wh : Int) : Rv × Int :=
  if goodW D p S q R z && (inB off (-60) 60 && inB wh 0 2) then (wvOf S z (bsT (fuGo S R.length D p q.toNat R) off wh), bsE (fuGo S R.length D p q.toNat R) off wh) else (Rv.zero, 5)
theorem swOut_le (D : List Int) (p : Int) (S : List Int) (q : Int) (R : List Int) (z off wh : Int) : LenW (swOut D p S q R z off wh) := by
  unfold swOut
  split
  · obtain ⟨hg, _⟩ := Bool.and_eq_true_iff.1 ‹_›
    obtain ⟨h1, h2, h3, h4, _⟩ := goodW_start hg
    obtain ⟨i1, i2, i3, i4, i5⟩ := fuGo_valid R.length D p q.toNat R h1 h4 (by omega)
    exact .of (bsT_valid i1) (by rw [bsT_r]; omega)
  · exact .zero _
def BSeekPost (lo b : Nat) (A' : Option Addr) (n' c' : Nat) (S : List Int) (z : Int) (a0 a1 a2 a3 : Addr) (T : Fv) (k : Int) (w : World) (e : Ending) (w' : World) : Prop :=
  ∃ A1 n1 c1 A5 n5 c5 M C M2 C2, e = .returned (errS a0 a1 a2 a3 k) ∧ Turn w.heap.size b w w' ∧ BackAt lo b A1 n1 c1 A' n' c' T.d S z T.p T.q A5 n5 c5 T.r M C M2 C2 w'
set_option maxHeartbeats 8000000 in
theorem bseek_any {lo b n c n' c' n2 c2 q0 M C M2 C2 E : Nat} {A A' A2 : Option Addr} {D S R : List Int} {z p off wh : Int} {a0 a1 a2 a3 : Addr} {w : World} (h : BackAt lo b A n c A' n' c' D S z p q0 A2 n2 c2 R M C M2 C2 w) (hE : ErrsS w E a0 a1 a2 a3) (hElo : E ≤ lo) (hv : validD D p S (q0 : Int) = true) (hq : q0 ≤ 900) (hR : R.length ≤ 16) (hR2 : allB R 0 255 = true) :
    Calls Tryd.prog 66 #[.pointer (some ⟨b, 0, none⟩), .int .i64 off, .int .i64 wh] w (BSeekPost lo b A' n' c' S z a0 a1 a2 a3 (bsT (fuGo S R.length D p q0 R) off wh) (bsE (fuGo S R.length D p q0 R) off wh) w) := by
  have hflush := flush_any h hE.1.1 hElo hv hq hR hR2
  obtain ⟨i1, _, _, _, i5⟩ := fuGo_valid R.length D p q0 R hv hR2 (by omega)
  have hlob := h.2.2.2.1.1
  have hbw := h.1.lt
  generalize fuGo S R.length D p q0 R = T at *
  have HF := Lib.hid hflush
  have HE := Lib.hid hE
  have HI1 := Lib.hid i1
  have HI5 := Lib.hid i5
  clear hflush hE i1 i5 h hv hR2
  go_enter Tryd.func66, Tryd.ntmps66
  go_wp2_with fail
  refine HF.out.mono ?_
  rintro e w3 ⟨A5, n5, c5, A6, n6, c6, M5, C5, M6, C6, rfl, ht, hbk⟩
  have s3 := ht.size
  have TR3 := Lib.hid ht
  have BK3 := Lib.hid hbk
  have HE3 := Lib.hid (HE.out.turn ht (by omega) (by omega))
  clear ht hbk HF HE
  by_cases hst : T.st = 0
  · rw [show errV a0 a1 a2 T.st = .nilIface from by rw [hst]; rfl]
    obtain ⟨_, _, _, hp, _⟩ := validD_iff.1 HI1.out
    have hl5 := BK3.out.2.1.1.len
    have h60 : n5 ≤ 60 := by have := bytesB_le (validD_iff.1 HI1.out).1; omega
    obtain ⟨P, hP⟩ : ∃ P, seekAt T.d.length T.p off wh = P := ⟨_, rfl⟩
    have hin := seekTo_in (size := T.d.length) (now := T.p) (off := off) (wh := wh)
    rw [hP] at hin
    have hcall := fun wx : World => placeFrom_any (off := off) (wh := wh) (now := T.p) (size := (T.d.length : Int)) (w := wx) (by unfold okInt; omega) (by omega) (by omega) hp.1 hp.2
    rw [hP, ← hl5] at hcall
    have HC : Hid (∀ wx : World, Calls Tryd.prog 102 #[.int .i64 off, .int .i64 wh, .int .i64 T.p, .int .i64 (n5 : Int)] wx fun e w' => e = .returned (.tuple #[.int .i64 (seekTo P), .bool (seekOk P)]) ∧ wx = w') := hcall
    have HP := Lib.hid hP
    have HST := Lib.hid hst
    have g3 := HE3.out.2.2
    have x0 := (BK3.out.1.2 0 _ rfl).1
    have x1 := (BK3.out.1.2 1 _ rfl).1
    have f1 := (BK3.out.1.2 1 _ rfl).2
    clear hcall hP hst hl5
    go_wp2_with fail
    go_region_held3 (fun w' => w'.cell? ⟨b, 0, none⟩ = some (.slice A5 n5 c5) ∧ w'.cell? ⟨b, 1, none⟩ = some (.int .i64 T.p)) (go_keep)
      ((go_at_call 102; refine (HC.out _).mono ?_; rintro e w4 ⟨rfl, rfl⟩))
    all_goals
      cases hok : seekOk P
      · have HT2 : Hid (bsT T off wh = T ∧ bsE T off wh = 5) := by
          show _ ∧ _
          unfold bsT bsE
          rw [HP.out, hok, HST.out]
          simp
        clear hok
        go_wp2
        go_ret
        refine ⟨A5, n5, c5, A6, n6, c6, M5, C5, M6, C6, by rw [HT2.out.2]; rfl, TR3.out.drew, ?_⟩
        rw [HT2.out.1]
        obtain ⟨b1, ⟨b2, b3, b4⟩, b5, ⟨b6, b7, b8, b9, b10, bms⟩, b11⟩ := BK3.out
        exact ⟨b1.drew, ⟨b2.drew, b3.drew, b4.drew⟩, b5, ⟨b6, b7, b8, by simpa using b9, by simpa using b10, by simpa using bms⟩, b11⟩
      · have HT2 : Hid (bsT T off wh = { T with p := seekTo P } ∧ bsE T off wh = 0) := by
          show _ ∧ _
          unfold bsT bsE
          rw [HP.out, hok, HST.out]
          simp
        clear hok
        go_wp2
        go_ret
        refine ⟨A5, n5, c5, A6, n6, c6, M5, C5, M6, C6, by rw [HT2.out.2]; rfl, TR3.out.drew.put _, ?_⟩
        rw [HT2.out.1]
        obtain ⟨b1, ⟨b2, b3, b4⟩, b5, ⟨b6, b7, b8, b9, b10, bms⟩, b11⟩ := BK3.out
        refine ⟨?_, ⟨b2.drew.set_ b5.1 _, b3.drew.set_ (.inr (Nat.le_refl _)) _, b4.drew.set_ b5.2 _⟩, b5, ⟨b6, b7, b8, by simpa using b9, by simpa using b10, by simpa using bms⟩, b11⟩
        have hx := (b1.put (i := 1) (by simp) (.int .i64 (seekTo P))).drew
        simpa using hx
  · obtain ⟨ae, hae⟩ : ∃ ae, errV a0 a1 a2 T.st = errAt ae := by
      rcases HI5.out with h | h | h | h
      · exact absurd h hst
      · exact ⟨a0, by rw [h]; rfl⟩
      · exact ⟨a1, by rw [h]; rfl⟩
      · exact ⟨a2, by rw [h]; rfl⟩
    have HT2 : Hid (bsT T off wh = T ∧ bsE T off wh = T.st) := by
      show _ ∧ _
      unfold bsT bsE
      rw [if_neg hst, if_neg (fun h => hst h.1)]
      exact ⟨rfl, rfl⟩
    rw [hae]
    have HAE := Lib.hid hae
    clear hst hae
    go_wp2
    go_ret
    refine ⟨A5, n5, c5, A6, n6, c6, M5, C5, M6, C6, ?_, TR3.out, ?_⟩
    · rw [HT2.out.2, errS_st HI5.out, HAE.out]; rfl
    · rw [HT2.out.1]
      exact BK3.out
set_option maxHeartbeats 8000000 in
theorem SeekWriter_x {A A' A2 : Option Addr} {n c n' c' n2 c2 : Nat} {D S R : List Int} {p q z : Int} {w : World} {L L' B B' M C : Nat} {off wh : Int} {E : Nat} {a0 a1 a2 a3 : Addr} (hE : ErrsS w E a0 a1 a2 a3) (hEw : E ≤ w.heap.size) (h : Ints w L B A n D) (h' : Ints w L' B' A' n' S) (g : Ints w M C A2 n2 R) (hB : B ≤ w.heap.size) (hB' : B' ≤ w.heap.size) (hC : C ≤ w.heap.size) (hc : n ≤ c) (hc1 : n' ≤ c') (hc2 : n2 ≤ c2) (_hn : n ≤ 1048576) (_hn1 : n' ≤ 1048576) (_hn2 : n2 ≤ 1048576) (_h1 : okInt off) (_h2 : okInt wh) :
    Calls Tryd.prog 24 #[.agg #[.slice (A) n c, .int .i64 (p), .slice (A') n' c', .int .i64 (q), .slice (A2) n2 c2, .int .i64 (z)], .int .i64 off, .int .i64 wh] w (Post2I (swOut D p S q R z off wh) w) := by
  have HG := Lib.hid g.len
  have HL := Lib.hid h.len
  have HL' := Lib.hid h'.len
  have HE0 := Lib.hid hE
  have H1 : Hid (Ints ((w.alloc (.cells #[.slice (A) n c, .int .i64 (p), .slice (A') n' c', .int .i64 (q), .slice (A2) n2 c2, .int .i64 (z)] 27)).alloc (.cells #[.slice none 0 0, .int .i64 0, .slice none 0 0, .int .i64 0, .slice none 0 0, .int .i64 0] 27)) L B A n D) := (h.alloc hB _).alloc (by first | omega | (simp; omega) | (simp; done)) _
  have H2 : Hid (Ints ((w.alloc (.cells #[.slice (A) n c, .int .i64 (p), .slice (A') n' c', .int .i64 (q), .slice (A2) n2 c2, .int .i64 (z)] 27)).alloc (.cells #[.slice none 0 0, .int .i64 0, .slice none 0 0, .int .i64 0, .slice none 0 0, .int .i64 0] 27)) L' B' A' n' S) := (h'.alloc hB' _).alloc (by first | omega | (simp; omega) | (simp; done)) _
  have G1 : Hid (Ints ((w.alloc (.cells #[.slice (A) n c, .int .i64 (p), .slice (A') n' c', .int .i64 (q), .slice (A2) n2 c2, .int .i64 (z)] 27)).alloc (.cells #[.slice none 0 0, .int .i64 0, .slice none 0 0, .int .i64 0, .slice none 0 0, .int .i64 0] 27)) M C A2 n2 R) := (g.alloc hC _).alloc (by first | omega | (simp; omega) | (simp; done)) _
  have X0 : Hid (Box ((w.alloc (.cells #[.slice (A) n c, .int .i64 (p), .slice (A') n' c', .int .i64 (q), .slice (A2) n2 c2, .int .i64 (z)] 27)).alloc (.cells #[.slice none 0 0, .int .i64 0, .slice none 0 0, .int .i64 0, .slice none 0 0, .int .i64 0] 27)) w.heap.size [.slice (A) n c, .int .i64 (p), .slice (A') n' c', .int .i64 (q), .slice (A2) n2 c2, .int .i64 (z)]) := (Box.new w 27 [.slice (A) n c, .int .i64 (p), .slice (A') n' c', .int .i64 (q), .slice (A2) n2 c2, .int .i64 (z)]).alloc _
  have R0 : Hid (Box ((w.alloc (.cells #[.slice (A) n c, .int .i64 (p), .slice (A') n' c', .int .i64 (q), .slice (A2) n2 c2, .int .i64 (z)] 27)).alloc (.cells #[.slice none 0 0, .int .i64 0, .slice none 0 0, .int .i64 0, .slice none 0 0, .int .i64 0] 27)) (w.heap.size + 1) [.slice none 0 0, .int .i64 0, .slice none 0 0, .int .i64 0, .slice none 0 0, .int .i64 0]) := by
    have hx := Box.new (w.alloc (.cells #[.slice (A) n c, .int .i64 (p), .slice (A') n' c', .int .i64 (q), .slice (A2) n2 c2, .int .i64 (z)] 27)) 27 [.slice none 0 0, .int .i64 0, .slice none 0 0, .int .i64 0, .slice none 0 0, .int .i64 0]
    rw [World.size_alloc] at hx
    exact hx
  have E0 : Hid (Below w.heap.size w ((w.alloc (.cells #[.slice (A) n c, .int .i64 (p), .slice (A') n' c', .int .i64 (q), .slice (A2) n2 c2, .int .i64 (z)] 27)).alloc (.cells #[.slice none 0 0, .int .i64 0, .slice none 0 0, .int .i64 0, .slice none 0 0, .int .i64 0] 27))) := (by go_grown : Below w.heap.size w _)
  have s0 : (((w.alloc (.cells #[.slice (A) n c, .int .i64 (p), .slice (A') n' c', .int .i64 (q), .slice (A2) n2 c2, .int .i64 (z)] 27)).alloc (.cells #[.slice none 0 0, .int .i64 0, .slice none 0 0, .int .i64 0, .slice none 0 0, .int .i64 0] 27))).heap.size = w.heap.size + 2 := by simp
  clear h h' g hE
  have x0 := (X0.out.2 0 _ rfl).1; have x1 := (X0.out.2 1 _ rfl).1; have x2 := (X0.out.2 2 _ rfl).1; have x3 := (X0.out.2 3 _ rfl).1; have x4 := (X0.out.2 4 _ rfl).1; have x5 := (X0.out.2 5 _ rfl).1
  go_enter Tryd.func24, Tryd.ntmps24
  go_wp2_with fail
  generalize ((w.alloc (.cells #[.slice (A) n c, .int .i64 (p), .slice (A') n' c', .int .i64 (q), .slice (A2) n2 c2, .int .i64 (z)] 27)).alloc (.cells #[.slice none 0 0, .int .i64 0, .slice none 0 0, .int .i64 0, .slice none 0 0, .int .i64 0] 27)) = w0 at *
  clear x0 x1 x2 x3 x4 x5
  refine (canWrite_any H1.out H2.out G1.out (by omega) (by omega) (by omega) hc).mono ?_
  rintro e w1 ⟨rfl, hb1⟩
  have s1 := hb1.size
  have E1 := Lib.hid (below_step hb1 E0.out (by omega))
  have X1 := Lib.hid (X0.out.below hb1 (by omega))
  have R1 := Lib.hid (R0.out.below hb1 (by omega))
  have I1 := Lib.hid (H1.out.below hb1 (by omega))
  have I2 := Lib.hid (H2.out.below hb1 (by omega))
  have G2 := Lib.hid (G1.out.below hb1 (by omega))
  clear hb1 H1 H2 G1 X0 R0 E0
  cases hg : goodW D p S q R z
  · have HO : Hid (swOut D p S q R z off wh = (Rv.zero, 5)) := by show _ = _; simp [swOut, hg]
    clear hg
    have r0 := (R1.out.2 0 _ rfl).1; have r1 := (R1.out.2 1 _ rfl).1; have r2 := (R1.out.2 2 _ rfl).1; have r3 := (R1.out.2 3 _ rfl).1; have r4 := (R1.out.2 4 _ rfl).1; have r5 := (R1.out.2 5 _ rfl).1
    have g0 := (R1.out.2 0 _ rfl).2; have g1 := (R1.out.2 1 _ rfl).2; have g2 := (R1.out.2 2 _ rfl).2; have g3 := (R1.out.2 3 _ rfl).2; have g4 := (R1.out.2 4 _ rfl).2; have g5 := (R1.out.2 5 _ rfl).2
    go_wp2
    refine bodyPost_ret (v := .tuple #[.agg #[.slice none 0 0, .int .i64 0, .slice none 0 0, .int .i64 0, .slice none 0 0, .int .i64 0], .int .i64 5]) (by simp [results, Tryd.results24, go_sem, r0, r1, r2, r3, r4, r5, g0, g1, g2, g3, g4, g5]) rfl ?_
    rw [HO.out]
    refine Post2I.zero ?_
    (repeat (with_reducible refine below_set ?_ (by omega) _))
    exact E1.out
  · cases hN : (inB off (-60) 60 && inB wh 0 2)
    · have HN := Lib.hid hN
      have HO : Hid (swOut D p S q R z off wh = (Rv.zero, 5)) := by show _ = _; simp [swOut, hN]
      clear hg
      have r0 := (R1.out.2 0 _ rfl).1; have r1 := (R1.out.2 1 _ rfl).1; have r2 := (R1.out.2 2 _ rfl).1; have r3 := (R1.out.2 3 _ rfl).1; have r4 := (R1.out.2 4 _ rfl).1; have r5 := (R1.out.2 5 _ rfl).1
      have g0 := (R1.out.2 0 _ rfl).2; have g1 := (R1.out.2 1 _ rfl).2; have g2 := (R1.out.2 2 _ rfl).2; have g3 := (R1.out.2 3 _ rfl).2; have g4 := (R1.out.2 4 _ rfl).2; have g5 := (R1.out.2 5 _ rfl).2
      go_wp2_with fail
      refine isSeek_any.mono ?_
      rintro e w2 ⟨rfl, rfl⟩
      rw [HN.out]
      go_wp2
      refine bodyPost_ret (v := .tuple #[.agg #[.slice none 0 0, .int .i64 0, .slice none 0 0, .int .i64 0, .slice none 0 0, .int .i64 0], .int .i64 5]) (by simp [results, Tryd.results24, go_sem, r0, r1, r2, r3, r4, r5, g0, g1, g2, g3, g4, g5]) rfl ?_
      rw [HO.out]
      refine Post2I.zero ?_
      (repeat (with_reducible refine below_set ?_ (by omega) _))
      exact E1.out
    · have HO : Hid (swOut D p S q R z off wh = (wvOf S z (bsT (fuGo S R.length D p q.toNat R) off wh), bsE (fuGo S R.length D p q.toNat R) off wh)) := by show _ = _; simp [swOut, hg, hN]
      have HN := Lib.hid hN
      clear hN
      obtain ⟨k1, k2, k3, k4, k5, k6, k7, k8⟩ := goodW_start hg
      obtain ⟨q0, rfl⟩ := Int.eq_ofNat_of_zero_le k6
      rw [Int.toNat_natCast] at HO k1 k2
      obtain ⟨i1, i2, i3, i4, i5⟩ := fuGo_valid R.length D p q0 R k1 k4 (by omega)
      obtain ⟨T, hT⟩ : ∃ T, fuGo S R.length D p q0 R = T := ⟨_, rfl⟩
      rw [hT] at i1 i2 i3 i4 i5 HO
      have HT := Lib.hid hT
      have HV := Lib.hid k1
      have HA := Lib.hid k4
      have HI1 := Lib.hid i1
      have HI5 := Lib.hid i5
      have hn60 : n ≤ 60 := by rw [HL.out]; exact k7
      have hn12 : n' ≤ 12 := by rw [HL'.out]; exact k8
      have hn16 : n2 ≤ 16 := by rw [HG.out]; exact k3
      obtain ⟨_, _, _, hp, _⟩ := validD_iff.1 k1
      clear hT hg k1 k4 i1 i2 i5
      have x0 := (X1.out.2 0 _ rfl).1; have x1 := (X1.out.2 1 _ rfl).1; have x2 := (X1.out.2 2 _ rfl).1; have x3 := (X1.out.2 3 _ rfl).1; have x4 := (X1.out.2 4 _ rfl).1; have x5 := (X1.out.2 5 _ rfl).1
      go_wp2_with fail
      refine isSeek_any.mono ?_
      rintro e w2 ⟨rfl, rfl⟩
      rw [HN.out]
      go_wp2_with fail
      clear x0 x1 x2 x3 x4 x5
      refine (backlogOf_any I1.out I2.out G2.out (by omega) (by omega) (by omega) (by omega) (by omega) (by omega) (by unfold okInt; omega) (by unfold okInt; omega)).mono ?_
      rintro e w2 ⟨b, A3, n3, c3, A3', n3', c3', A4, n4, c4, rfl, ⟨hc3, hc3', hc4⟩, hb2, hbl, hx, h1, h2, h3, ha, ha1, ha2⟩
      have hbw := hx.lt
      have s2 := hb2.size
      have BK := Lib.hid (show BackAt w1.heap.size b A3 n3 c3 A3' n3' c3' D S z p q0 A4 n4 c4 R w1.heap.size b w1.heap.size b w2 from ⟨hx, ⟨h1, h2, h3⟩, ⟨.inr (Nat.le_refl _), .inr (Nat.le_refl _)⟩, ⟨hbl, Nat.le_refl _, Nat.le_refl _, by omega, by omega, s2⟩, ⟨hc3, hc4⟩, ⟨ha, ha1, ha2⟩⟩)
      have R2 := Lib.hid (R1.out.below hb2 (by omega))
      have E2 := Lib.hid (below_step hb2 E1.out (by omega))
      have HE2 := Lib.hid (HE0.out.below E2.out hEw)
      clear hb2 hx h1 h2 h3 ha ha1 ha2 R1 E1 I1 I2 G2 X1
      have hseek := bseek_any (off := off) (wh := wh) BK.out HE2.out (by omega) HV.out k2 k3 HA.out
      rw [HT.out] at hseek
      have HVT := Lib.hid (bsT_valid (off := off) (wh := wh) HI1.out)
      have HEND := Lib.hid (bsE_end (off := off) (wh := wh) HI5.out)
      generalize bsT T off wh = U at *
      generalize bsE T off wh = ke at *
      have HF := Lib.hid hseek
      clear hseek
      go_wp2_with fail
      refine HF.out.mono ?_
      rintro e w3 ⟨A5, n5, c5, A6, n6, c6, M5, C5, M6, C6, rfl, ht, hbk⟩
      have s3 := ht.size
      have BK3 := Lib.hid hbk
      have R3 := Lib.hid (R2.out.turn ht (by omega) (by omega))
      have E3 : Hid (Below w.heap.size w w3) := E2.out.trans (ht.below (by omega) (by omega))
      clear ht hbk R2 E2 BK HF HE2
      go_wp2_with fail
      refine (writer_any BK3.out.1).mono ?_
      rintro e w8 ⟨rfl, hb8⟩
      have s8 := hb8.size
      have BK8 := Lib.hid (BK3.out.below hb8 (Nat.le_refl _))
      have R8 := Lib.hid (R3.out.below hb8 (by omega))
      have E8 := Lib.hid (below_step hb8 E3.out (by omega))
      have HE8 := Lib.hid (HE0.out.below E8.out hEw)
      clear hb8 BK3 R3 E3
      go_wp2_with fail
      refine (endOfS_any HE8.out HEND.out).mono ?_
      rintro e w9 ⟨rfl, rfl⟩
      have r0 := (R8.out.2 0 _ rfl).1; have r1 := (R8.out.2 1 _ rfl).1; have r2 := (R8.out.2 2 _ rfl).1; have r3 := (R8.out.2 3 _ rfl).1; have r4 := (R8.out.2 4 _ rfl).1; have r5 := (R8.out.2 5 _ rfl).1
      have g0 := (R8.out.2 0 _ rfl).2; have g1 := (R8.out.2 1 _ rfl).2; have g2 := (R8.out.2 2 _ rfl).2; have g3 := (R8.out.2 3 _ rfl).2; have g4 := (R8.out.2 4 _ rfl).2; have g5 := (R8.out.2 5 _ rfl).2
      go_wp2
      refine bodyPost_ret (v := .tuple #[.agg #[.slice (A5) n5 c5, .int .i64 (U.p), .slice (A3') n3' c3', .int .i64 ((U.q : Int)), .slice (A6) n6 c6, .int .i64 (z)], .int .i64 ke]) (by simp [results, Tryd.results24, go_sem, r0, r1, r2, r3, r4, r5, g0, g1, g2, g3, g4, g5]) rfl ?_
      rw [HO.out]
      refine w2_post (by (repeat (with_reducible refine below_set ?_ (by omega) _)); exact E8.out) (by omega) (BK8.out.sets (by omega)) HVT.out k5 hc3'
end Go.Proofs.YtdgfcbnfhengiaaDoor
