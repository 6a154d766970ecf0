/- Contracts of plain files, the program's. -/
import Derived.Test.YtdiebkaedjlckaaC1k
import Derived.Test.YtdiebkaedjlckaaC1h
import Derived.Deep.RegionHeld3
import Derived.Deep.DeepCutAuto
namespace Go.Proofs.Ytdiebkaedjlckaa
open Go.ChangeShapes Go.WideShapes Go.ChangeAt Go.RowKit
set_option linter.unusedSimpArgs false
set_option linter.unusedVariables false
set_option maxRecDepth 10000

/-- A plain file's data. -/
structure Pv where
  d : List Int
  p : Int
def Pv.zero : Pv := ⟨[], 0⟩
def validP (D : List Int) (p : Int) : Bool := bytesB D && inB p 0 60
theorem validP_D (D : List Int) (p : Int) : validD D p [] 0 = validP D p := by simp [validD, validP, allB, inB]
theorem validP_iff {D : List Int} {p : Int} : validP D p = true ↔ bytesB D = true ∧ 0 ≤ p ∧ p ≤ 60 := by simp [validP, inB]
def prL (D : List Int) (p z : Int) : List Int := (D.drop p.toNat).take z.toNat
/-- What PlainRead gives. -/
def prOut (D : List Int) (p z : Int) : Pv × List Int := if validP D p && inB z 0 60 then (⟨D, p + ((prL D p z).length : Int)⟩, prL D p z) else (.zero, [])
theorem prOut_le (D : List Int) (p z : Int) : (prOut D p z).1.d.length ≤ 60 ∧ (prOut D p z).2.length ≤ 60 := by
  unfold prOut
  split
  · have h := bytesB_le (validP_iff.1 (Bool.and_eq_true_iff.1 ‹_›).1).1
    refine ⟨h, ?_⟩
    show (prL D p z).length ≤ 60
    unfold prL
    rw [List.length_take, List.length_drop]
    omega
  · exact ⟨by decide, by decide⟩
/-- What PlainWrite gives. -/
def pwOut (D : List Int) (p : Int) (L : List Int) : Pv × Int := if validP D p && bytesB L then (⟨wrL D p.toNat (L.take (waM p.toNat L.length)), p + (waM p.toNat L.length : Nat)⟩, (waM p.toNat L.length : Nat)) else (.zero, 0)
theorem pwOut_le0 (D : List Int) (p : Int) (L : List Int) : (pwOut D p L).1.d.length ≤ 60 := by
  unfold pwOut
  split
  · obtain ⟨h, hp⟩ := validP_iff.1 (Bool.and_eq_true_iff.1 ‹_›).1
    have h60 := bytesB_le h
    show (wrL D p.toNat (L.take (waM p.toNat L.length))).length ≤ 60
    by_cases h0 : L.take (waM p.toNat L.length) = []
    · rw [h0]; simpa [wrL] using h60
    · rw [wrL_len (List.length_pos_iff.2 h0), List.length_take]
      unfold waM
      omega
  · decide
theorem pwOut_le (D : List Int) (p : Int) (L : List Int) : (pwOut D p L).1.d.length ≤ 60 ∧ True := ⟨pwOut_le0 D p L, trivial⟩
/-- What PlainSeek gives. -/
def psOut (D : List Int) (p off wh : Int) : Pv × Bool := (⟨(seekOut D p [] 0 off wh).1.d, (seekOut D p [] 0 off wh).1.p⟩, (seekOut D p [] 0 off wh).2)
theorem psOut_le (D : List Int) (p off wh : Int) : (psOut D p off wh).1.d.length ≤ 60 ∧ True := ⟨(seekOut_le D p [] 0 off wh).1, trivial⟩

/-- A plain file and a list in new memory. -/
def PostPL (o : Pv × List Int) (w : World) (e : Ending) (w' : World) : Prop :=
  ∃ A n c X l k, e = .returned (.tuple #[.agg #[.slice (A) n c, .int .i64 (o.1.p)], .slice X l k]) ∧ (n ≤ c ∧ l ≤ k) ∧ Below w.heap.size w w' ∧ Ints w' w.heap.size w'.heap.size A n o.1.d ∧ Ints w' w.heap.size w'.heap.size X l o.2 ∧ Apart X l A n ∧ okInt o.1.p
def PostPI (o : Pv × Int) (w : World) (e : Ending) (w' : World) : Prop :=
  ∃ A n c, e = .returned (.tuple #[.agg #[.slice (A) n c, .int .i64 (o.1.p)], .int .i64 o.2]) ∧ n ≤ c ∧ Below w.heap.size w w' ∧ Ints w' w.heap.size w'.heap.size A n o.1.d ∧ okInt o.1.p
def PostPB (o : Pv × Bool) (w : World) (e : Ending) (w' : World) : Prop :=
  ∃ A n c, e = .returned (.tuple #[.agg #[.slice (A) n c, .int .i64 (o.1.p)], .bool o.2]) ∧ n ≤ c ∧ Below w.heap.size w w' ∧ Ints w' w.heap.size w'.heap.size A n o.1.d ∧ okInt o.1.p
theorem ok0 : okInt 0 := by unfold okInt; omega

set_option maxHeartbeats 1000000 in
theorem deviceOf_any {A : Option Addr} {n c : Nat} {p : Int} {w : World} :
    Calls Try.prog 48 #[.agg #[.slice (A) n c, .int .i64 (p)]] w (fun e w' => e = .returned (.agg #[.slice (A) n c, .int .i64 (p), .slice (none) 0 0, .int .i64 (0)]) ∧ Below w.heap.size w w') := by
  have X0 : Hid (Box ((w.alloc (.cells #[.slice (A) n c, .int .i64 (p)] 35)).alloc (.cells #[.slice none 0 0, .int .i64 0, .slice none 0 0, .int .i64 0] 25)) w.heap.size [.slice (A) n c, .int .i64 (p)]) := (Box.new w 35 [.slice (A) n c, .int .i64 (p)]).alloc _
  have R0 : Hid (Box ((w.alloc (.cells #[.slice (A) n c, .int .i64 (p)] 35)).alloc (.cells #[.slice none 0 0, .int .i64 0, .slice none 0 0, .int .i64 0] 25)) (w.heap.size + 1) [.slice none 0 0, .int .i64 0, .slice none 0 0, .int .i64 0]) := by
    have hx := Box.new (w.alloc (.cells #[.slice (A) n c, .int .i64 (p)] 35)) 25 [.slice none 0 0, .int .i64 0, .slice none 0 0, .int .i64 0]
    rw [World.size_alloc] at hx
    exact hx
  have E0 : Hid (Below w.heap.size w ((w.alloc (.cells #[.slice (A) n c, .int .i64 (p)] 35)).alloc (.cells #[.slice none 0 0, .int .i64 0, .slice none 0 0, .int .i64 0] 25))) := (by go_grown : Below w.heap.size w _)
  have s0 : (((w.alloc (.cells #[.slice (A) n c, .int .i64 (p)] 35)).alloc (.cells #[.slice none 0 0, .int .i64 0, .slice none 0 0, .int .i64 0] 25))).heap.size = w.heap.size + 2 := by simp
  have x0 := (X0.out.2 0 _ rfl).1; have x1 := (X0.out.2 1 _ rfl).1
  have r0 := (R0.out.2 0 _ rfl).1; have r1 := (R0.out.2 1 _ rfl).1; have r2 := (R0.out.2 2 _ rfl).1; have r3 := (R0.out.2 3 _ rfl).1
  have g0 := (R0.out.2 0 _ rfl).2; have g1 := (R0.out.2 1 _ rfl).2; have g2 := (R0.out.2 2 _ rfl).2; have g3 := (R0.out.2 3 _ rfl).2
  go_enter Try.func48, Try.ntmps48
  go_upto_region 1 with (fail)
  generalize ((w.alloc (.cells #[.slice (A) n c, .int .i64 (p)] 35)).alloc (.cells #[.slice none 0 0, .int .i64 0, .slice none 0 0, .int .i64 0] 25)) = w0 at *
  go_wp2
  refine bodyPost_ret (v := .agg #[.slice (A) n c, .int .i64 (p), .slice (none) 0 0, .int .i64 (0)]) (by simp [results, Try.results48, go_sem, r0, r1, r2, r3, g0, g1, g2, g3]) rfl ?_
  refine ⟨rfl, ?_⟩
  (repeat (with_reducible refine below_set ?_ (by omega) _))
  exact E0.out
set_option maxHeartbeats 1000000 in
theorem isPlain_any {A : Option Addr} {n c : Nat} {D : List Int} {p : Int} {w : World} {L B : Nat} (h : Ints w L B A n D) (hB : B ≤ w.heap.size) :
    Calls Try.prog 45 #[.agg #[.slice (A) n c, .int .i64 (p)]] w (BoolB (validP D p) w) := by
  have H1 := Lib.hid (h.alloc hB (.cells #[.slice (A) n c, .int .i64 (p)] 35))
  clear h
  go_enter Try.func45, Try.ntmps45
  go_wp2_with fail
  refine deviceOf_any.mono ?_
  rintro e w1 ⟨rfl, hb1⟩
  (try simp only [World.size_alloc, World.size_setCell, World.size_drew] at hb1)
  have s1 := hb1.size
  (try simp only [World.size_alloc, World.size_setCell, World.size_drew] at s1)
  have I1 := Lib.hid (H1.out.below hb1 (by omega))
  have E1 : Hid (Below w.heap.size w w1) := below_step hb1 (by go_grown) (by omega)
  clear hb1 H1
  go_wp2_with fail
  refine (ValidDevice_any I1.out (Ints.nil w1 0 0 0 none).1 (by omega) (by omega)).mono ?_
  rintro e w2 ⟨rfl, hb2⟩
  have HB := Lib.hid hb2
  clear hb2
  go_wp2
  go_ret
  exact ⟨ret_bool (validP_D D p), below_step HB.out E1.out (by omega)⟩
set_option maxHeartbeats 4000000 in
theorem PlainRead_x {A : Option Addr} {n c : Nat} {D : List Int} {p z : Int} {w : World} {L B : Nat} (h : Ints w L B A n D) (hB : B ≤ w.heap.size) (hc : n ≤ c) (_hn : n ≤ 1048576) (_hz : okInt z) :
    Calls Try.prog 16 #[.agg #[.slice (A) n c, .int .i64 (p)], .int .i64 z] w (PostPL (prOut D p z) w) := by
  have HL := Lib.hid h.len
  have H1 : Hid (Ints ((w.alloc (.cells #[.slice (A) n c, .int .i64 (p)] 35)).alloc (.cells #[.slice none 0 0, .int .i64 0] 35)) L B A n D) := (h.alloc hB _).alloc (by first | omega | (simp; omega) | (simp; done)) _
  have X0 : Hid (Box ((w.alloc (.cells #[.slice (A) n c, .int .i64 (p)] 35)).alloc (.cells #[.slice none 0 0, .int .i64 0] 35)) w.heap.size [.slice (A) n c, .int .i64 (p)]) := (Box.new w 35 [.slice (A) n c, .int .i64 (p)]).alloc _
  have R0 : Hid (Box ((w.alloc (.cells #[.slice (A) n c, .int .i64 (p)] 35)).alloc (.cells #[.slice none 0 0, .int .i64 0] 35)) (w.heap.size + 1) [.slice none 0 0, .int .i64 0]) := by
    have hx := Box.new (w.alloc (.cells #[.slice (A) n c, .int .i64 (p)] 35)) 35 [.slice none 0 0, .int .i64 0]
    rw [World.size_alloc] at hx
    exact hx
  have E0 : Hid (Below w.heap.size w ((w.alloc (.cells #[.slice (A) n c, .int .i64 (p)] 35)).alloc (.cells #[.slice none 0 0, .int .i64 0] 35))) := (by go_grown : Below w.heap.size w _)
  have s0 : (((w.alloc (.cells #[.slice (A) n c, .int .i64 (p)] 35)).alloc (.cells #[.slice none 0 0, .int .i64 0] 35))).heap.size = w.heap.size + 2 := by simp
  clear h
  have x0 := (X0.out.2 0 _ rfl).1; have x1 := (X0.out.2 1 _ rfl).1
  go_enter Try.func16, Try.ntmps16
  go_wp2_with fail
  generalize ((w.alloc (.cells #[.slice (A) n c, .int .i64 (p)] 35)).alloc (.cells #[.slice none 0 0, .int .i64 0] 35)) = w0 at *
  clear x0 x1
  refine (isPlain_any H1.out (by omega)).mono ?_
  rintro e w1 ⟨rfl, hb1⟩
  have s1 := hb1.size
  have E1 := Lib.hid (below_step hb1 E0.out (by omega))
  have X1 := Lib.hid (X0.out.below hb1 (by omega))
  have R1 := Lib.hid (R0.out.below hb1 (by omega))
  have I1 := Lib.hid (H1.out.below hb1 (by omega))
  clear hb1 H1 X0 R0 E0
  cases hv : validP D p
  · have HO : Hid (prOut D p z = (Pv.zero, [])) := by show _ = _; simp [prOut, hv]
    clear hv
    have r0 := (R1.out.2 0 _ rfl).1; have r1 := (R1.out.2 1 _ rfl).1
    have g0 := (R1.out.2 0 _ rfl).2; have g1 := (R1.out.2 1 _ rfl).2
    go_wp2
    refine bodyPost_ret (v := .tuple #[.agg #[.slice none 0 0, .int .i64 0], .slice none 0 0]) (by simp [results, Try.results16, go_sem, r0, r1, g0, g1]) rfl ?_
    rw [HO.out]
    refine ⟨none, 0, 0, none, 0, 0, rfl, ⟨Nat.le_refl _, Nat.le_refl _⟩, ?_, (Ints.nil _ _ _ 0 _).1, (Ints.nil _ _ _ 0 _).1, Apart.zero, ok0⟩
    (repeat (with_reducible refine below_set ?_ (by omega) _))
    exact E1.out
  · have HV := Lib.hid hv
    cases hz : inB z 0 60
    · have HO : Hid (prOut D p z = (Pv.zero, [])) := by show _ = _; simp [prOut, hz]
      clear hv
      have r0 := (R1.out.2 0 _ rfl).1; have r1 := (R1.out.2 1 _ rfl).1
      have g0 := (R1.out.2 0 _ rfl).2; have g1 := (R1.out.2 1 _ rfl).2
      go_wp2_with (go_at_call 46; refine (isIn_any).mono ?_; rintro e w' ⟨rfl, rfl⟩)
      refine bodyPost_ret (v := .tuple #[.agg #[.slice none 0 0, .int .i64 0], .slice none 0 0]) (by simp [results, Try.results16, go_sem, r0, r1, g0, g1]) rfl ?_
      rw [HO.out]
      refine ⟨none, 0, 0, none, 0, 0, rfl, ⟨Nat.le_refl _, Nat.le_refl _⟩, ?_, (Ints.nil _ _ _ 0 _).1, (Ints.nil _ _ _ 0 _).1, Apart.zero, ok0⟩
      (repeat (with_reducible refine below_set ?_ (by omega) _))
      exact E1.out
    · have HO : Hid (prOut D p z = (⟨D, p + ((prL D p z).length : Int)⟩, prL D p z)) := by show _ = _; simp [prOut, hz, hv]
      have HRL : Hid (restL D p [] 0 = D.drop p.toNat) := by
        show _ = _
        unfold restL
        rw [validP_D, hv, if_pos rfl]
      obtain ⟨hb, hp0, hp1⟩ := validP_iff.1 hv
      have hn60 : n ≤ 60 := by rw [HL.out]; exact bytesB_le hb
      obtain ⟨hz0, hz1⟩ := inB_iff.1 hz
      clear hv hb
      have x0 := (X1.out.2 0 _ rfl).1; have x1 := (X1.out.2 1 _ rfl).1
      go_wp2_with (go_at_call 46; refine (isIn_any).mono ?_; rintro e w' ⟨rfl, rfl⟩)
      clear x0 x1
      refine deviceOf_any.mono ?_
      rintro e w2 ⟨rfl, hb2⟩
      have s2 := hb2.size
      have E2 := Lib.hid (below_step hb2 E1.out (by omega))
      have X2 := Lib.hid (X1.out.below hb2 (by omega))
      have R2 := Lib.hid (R1.out.below hb2 (by omega))
      have I2 := Lib.hid (I1.out.below hb2 (by omega))
      clear hb2 E1 X1 R1 I1
      go_wp2_with fail
      refine (RestOf_any I2.out (Ints.nil w2 0 0 0 none).1 (by omega) (by omega) hc).mono ?_
      rintro e w3 ⟨A3, n3, c3, rfl, hc3, hb3, hi3⟩
      have s3 := hb3.size
      have E3 := Lib.hid (below_step hb3 E2.out (by omega))
      have X3 := Lib.hid (X2.out.below hb3 (by omega))
      have R3 := Lib.hid (R2.out.below hb3 (by omega))
      have I3 := Lib.hid (I2.out.below hb3 (by omega))
      rw [HRL.out] at hi3
      have K3 := Lib.hid hi3
      have HL3 := Lib.hid hi3.len
      have hn3 : n3 ≤ 60 := by have h1 := hi3.len; have h2 := HL.out; rw [List.length_drop] at h1; omega
      clear hb3 hi3 E2 X2 R2 I2
      obtain ⟨j, rfl⟩ := Int.eq_ofNat_of_zero_le hz0
      obtain ⟨m, hm, hm3, hmc⟩ : ∃ m : Nat, min j n3 = m ∧ m ≤ n3 ∧ ((n3 < j ∧ m = n3) ∨ (¬ n3 < j ∧ m = j)) := ⟨_, rfl, by omega, by omega⟩
      have HPL : Hid (prL D p j = (D.drop p.toNat).take m) := by
        show _ = _
        unfold prL
        rw [Int.toNat_natCast]
        refine take_same ?_
        rw [← HL3.out]
        omega
      have HPN : Hid ((prL D p j).length = m) := by
        show _ = _
        rw [HPL.out, List.length_take, ← HL3.out]; omega
      have hwa : IntKind.i64.wrap (p + (m : Int)) = p + (m : Int) := IntWalk.i64_in _ (by omega)
      have hmm : m ≤ c3 := by omega
      have hmI : (m : Int) ≤ (c3 : Int) := by omega
      have hm0 : (0 : Int) ≤ (m : Int) := by omega
      have x0 := (X3.out.2 0 _ rfl).1; have x1 := (X3.out.2 1 _ rfl).1
      have r0 := (R3.out.2 0 _ rfl).1; have r1 := (R3.out.2 1 _ rfl).1
      have g0 := (R3.out.2 0 _ rfl).2; have g1 := (R3.out.2 1 _ rfl).2
      clear hm
      rcases hmc with ⟨hlt, rfl⟩ | ⟨hlt, rfl⟩
      · have hltI : (m : Int) < (j : Int) := by omega
        go_wp2_with fail
        go_region_held3 (fun w' => w'.cell? ⟨w.heap.size, 0, none⟩ = some (.slice A n c) ∧ w'.cell? ⟨w.heap.size, 1, none⟩ = some (.int .i64 p)) (go_keep)
          ((go_at_call 49; refine (copyList_any I3.out.drew (by first | omega | (simp; omega) | (simp; done)) (by omega)).mono ?_; rintro e w4 ⟨A4, n4, c4, rfl, hc4, hb4, hi4⟩; (try simp only [World.size_alloc, World.size_setCell, World.size_drew] at hb4 hi4); have HB4 := Lib.hid hb4; have HI4 := Lib.hid hi4; have s4 := hb4.size; (try simp only [World.size_alloc, World.size_setCell, World.size_drew] at s4); have X4 := Lib.hid (X3.out.drew.below hb4 (by omega)); have R4 := Lib.hid (R3.out.drew.below hb4 (by omega)); clear hb4 hi4; clear x0 x1; clear r0 r1; clear g0 g1; have x0 := (X4.out.2 0 _ rfl).1; have x1 := (X4.out.2 1 _ rfl).1; have r0 := (R4.out.2 0 _ rfl).1; have r1 := (R4.out.2 1 _ rfl).1; have g0 := (R4.out.2 0 _ rfl).2; have g1 := (R4.out.2 1 _ rfl).2))
        all_goals
          go_wp2
          refine bodyPost_ret (v := .tuple #[.agg #[.slice (A4) n4 c4, .int .i64 (p + (m : Int))], .slice A3 m m]) (by simp [results, Try.results16, go_sem, r0, r1, g0, g1]) rfl ?_
          rw [HO.out]
          have K4 := (K3.out.drew.below HB4.out (by simp)).take hm3
          refine ⟨A4, n4, c4, A3, m, m, by rw [HPN.out], ⟨hc4, Nat.le_refl _⟩, ?_, ?_, ?_, ?_, ?_⟩
          · (repeat (with_reducible refine below_set ?_ (by omega) _))
            exact below_step HB4.out E3.out.drew (by omega)
          · simp only [World.size_setCell]
            refine Ints.more (lo := w3.heap.size) (hi := w4.heap.size) ?_ (by omega) (by omega)
            (repeat (with_reducible refine Ints.set_ ?_ (by omega) _))
            exact HI4.out
          · simp only [World.size_setCell]
            rw [HPL.out]
            refine Ints.more (lo := w2.heap.size) (hi := w3.heap.size) ?_ (by omega) (by omega)
            (repeat (with_reducible refine Ints.set_ ?_ (by omega) _))
            exact K4
          · exact Apart.of_le K4 HI4.out (by omega)
          · unfold okInt; show _ ≤ p + ((prL D p j).length : Int) ∧ p + ((prL D p j).length : Int) ≤ _; rw [HPN.out]; omega
      · have hgeI : (m : Int) ≤ (n3 : Int) := by omega
        have hif : (if n3 < m then (n3 : Int) else (m : Int)) = (m : Int) := if_neg hlt
        go_wp2_with fail
        go_region_held3 (fun w' => w'.cell? ⟨w.heap.size, 0, none⟩ = some (.slice A n c) ∧ w'.cell? ⟨w.heap.size, 1, none⟩ = some (.int .i64 p)) (go_keep)
          ((go_at_call 49; refine (copyList_any I3.out.drew (by first | omega | (simp; omega) | (simp; done)) (by omega)).mono ?_; rintro e w4 ⟨A4, n4, c4, rfl, hc4, hb4, hi4⟩; (try simp only [World.size_alloc, World.size_setCell, World.size_drew] at hb4 hi4); have HB4 := Lib.hid hb4; have HI4 := Lib.hid hi4; have s4 := hb4.size; (try simp only [World.size_alloc, World.size_setCell, World.size_drew] at s4); have X4 := Lib.hid (X3.out.drew.below hb4 (by omega)); have R4 := Lib.hid (R3.out.drew.below hb4 (by omega)); clear hb4 hi4; clear x0 x1; clear r0 r1; clear g0 g1; have x0 := (X4.out.2 0 _ rfl).1; have x1 := (X4.out.2 1 _ rfl).1; have r0 := (R4.out.2 0 _ rfl).1; have r1 := (R4.out.2 1 _ rfl).1; have g0 := (R4.out.2 0 _ rfl).2; have g1 := (R4.out.2 1 _ rfl).2))
        all_goals
          go_wp2
          refine bodyPost_ret (v := .tuple #[.agg #[.slice (A4) n4 c4, .int .i64 (p + (m : Int))], .slice A3 m m]) (by simp [results, Try.results16, go_sem, r0, r1, g0, g1]) rfl ?_
          rw [HO.out]
          have K4 := (K3.out.drew.below HB4.out (by simp)).take hm3
          refine ⟨A4, n4, c4, A3, m, m, by rw [HPN.out], ⟨hc4, Nat.le_refl _⟩, ?_, ?_, ?_, ?_, ?_⟩
          · (repeat (with_reducible refine below_set ?_ (by omega) _))
            exact below_step HB4.out E3.out.drew (by omega)
          · simp only [World.size_setCell]
            refine Ints.more (lo := w3.heap.size) (hi := w4.heap.size) ?_ (by omega) (by omega)
            (repeat (with_reducible refine Ints.set_ ?_ (by omega) _))
            exact HI4.out
          · simp only [World.size_setCell]
            rw [HPL.out]
            refine Ints.more (lo := w2.heap.size) (hi := w3.heap.size) ?_ (by omega) (by omega)
            (repeat (with_reducible refine Ints.set_ ?_ (by omega) _))
            exact K4
          · exact Apart.of_le K4 HI4.out (by omega)
          · unfold okInt; show _ ≤ p + ((prL D p m).length : Int) ∧ p + ((prL D p m).length : Int) ≤ _; rw [HPN.out]; omega
set_option maxHeartbeats 4000000 in
theorem PlainWrite_x {A A1 : Option Addr} {n c n1 c1 : Nat} {D L1 : List Int} {p : Int} {w : World} {L B L' B' : Nat} (h : Ints w L B A n D) (h' : Ints w L' B' A1 n1 L1) (hB : B ≤ w.heap.size) (hB' : B' ≤ w.heap.size) (hc : n ≤ c) (hc1 : n1 ≤ c1) (_hn : n ≤ 1048576) (_hn1 : n1 ≤ 1048576) :
    Calls Try.prog 22 #[.agg #[.slice (A) n c, .int .i64 (p)], .slice A1 n1 c1] w (PostPI (pwOut D p L1) w) := by
  have HL := Lib.hid h.len
  have HL1 := Lib.hid h'.len
  have H1 : Hid (Ints ((w.alloc (.cells #[.slice (A) n c, .int .i64 (p)] 35)).alloc (.cells #[.slice none 0 0, .int .i64 0] 35)) L B A n D) := (h.alloc hB _).alloc (by first | omega | (simp; omega) | (simp; done)) _
  have G1 : Hid (Ints ((w.alloc (.cells #[.slice (A) n c, .int .i64 (p)] 35)).alloc (.cells #[.slice none 0 0, .int .i64 0] 35)) L' B' A1 n1 L1) := (h'.alloc hB' _).alloc (by first | omega | (simp; omega) | (simp; done)) _
  have X0 : Hid (Box ((w.alloc (.cells #[.slice (A) n c, .int .i64 (p)] 35)).alloc (.cells #[.slice none 0 0, .int .i64 0] 35)) w.heap.size [.slice (A) n c, .int .i64 (p)]) := (Box.new w 35 [.slice (A) n c, .int .i64 (p)]).alloc _
  have R0 : Hid (Box ((w.alloc (.cells #[.slice (A) n c, .int .i64 (p)] 35)).alloc (.cells #[.slice none 0 0, .int .i64 0] 35)) (w.heap.size + 1) [.slice none 0 0, .int .i64 0]) := by
    have hx := Box.new (w.alloc (.cells #[.slice (A) n c, .int .i64 (p)] 35)) 35 [.slice none 0 0, .int .i64 0]
    rw [World.size_alloc] at hx
    exact hx
  have E0 : Hid (Below w.heap.size w ((w.alloc (.cells #[.slice (A) n c, .int .i64 (p)] 35)).alloc (.cells #[.slice none 0 0, .int .i64 0] 35))) := (by go_grown : Below w.heap.size w _)
  have s0 : (((w.alloc (.cells #[.slice (A) n c, .int .i64 (p)] 35)).alloc (.cells #[.slice none 0 0, .int .i64 0] 35))).heap.size = w.heap.size + 2 := by simp
  clear h h'
  have x0 := (X0.out.2 0 _ rfl).1; have x1 := (X0.out.2 1 _ rfl).1
  go_enter Try.func22, Try.ntmps22
  go_wp2_with fail
  generalize ((w.alloc (.cells #[.slice (A) n c, .int .i64 (p)] 35)).alloc (.cells #[.slice none 0 0, .int .i64 0] 35)) = w0 at *
  clear x0 x1
  refine (isPlain_any H1.out (by omega)).mono ?_
  rintro e w1 ⟨rfl, hb1⟩
  have s1 := hb1.size
  have E1 := Lib.hid (below_step hb1 E0.out (by omega))
  have X1 := Lib.hid (X0.out.below hb1 (by omega))
  have R1 := Lib.hid (R0.out.below hb1 (by omega))
  have I1 := Lib.hid (H1.out.below hb1 (by omega))
  have G2 := Lib.hid (G1.out.below hb1 (by omega))
  clear hb1 H1 G1 X0 R0 E0
  cases hv : validP D p
  · have HO : Hid (pwOut D p L1 = (Pv.zero, 0)) := by show _ = _; simp [pwOut, hv]
    clear hv
    have r0 := (R1.out.2 0 _ rfl).1; have r1 := (R1.out.2 1 _ rfl).1
    have g0 := (R1.out.2 0 _ rfl).2; have g1 := (R1.out.2 1 _ rfl).2
    go_wp2
    refine bodyPost_ret (v := .tuple #[.agg #[.slice none 0 0, .int .i64 0], .int .i64 0]) (by simp [results, Try.results22, go_sem, r0, r1, g0, g1]) rfl ?_
    rw [HO.out]
    refine ⟨none, 0, 0, rfl, Nat.le_refl _, ?_, (Ints.nil _ _ _ 0 _).1, ok0⟩
    (repeat (with_reducible refine below_set ?_ (by omega) _))
    exact E1.out
  · cases hz : bytesB L1
    · have HO : Hid (pwOut D p L1 = (Pv.zero, 0)) := by show _ = _; simp [pwOut, hz]
      clear hv
      have r0 := (R1.out.2 0 _ rfl).1; have r1 := (R1.out.2 1 _ rfl).1
      have g0 := (R1.out.2 0 _ rfl).2; have g1 := (R1.out.2 1 _ rfl).2
      go_wp2_with fail
      refine (areBytes_any G2.out).mono ?_
      rintro e w2 ⟨rfl, rfl⟩
      rw [hz]
      go_wp2
      refine bodyPost_ret (v := .tuple #[.agg #[.slice none 0 0, .int .i64 0], .int .i64 0]) (by simp [results, Try.results22, go_sem, r0, r1, g0, g1]) rfl ?_
      rw [HO.out]
      refine ⟨none, 0, 0, rfl, Nat.le_refl _, ?_, (Ints.nil _ _ _ 0 _).1, ok0⟩
      (repeat (with_reducible refine below_set ?_ (by omega) _))
      exact E1.out
    · have HO : Hid (pwOut D p L1 = (Pv.mk (wrL D p.toNat (L1.take (waM p.toNat L1.length))) (p + ((waM p.toNat L1.length : Nat) : Int)), ((waM p.toNat L1.length : Nat) : Int))) := by show _ = _; simp [pwOut, hz, hv]
      obtain ⟨hb, hp0, hp1⟩ := validP_iff.1 hv
      have hn60 : n ≤ 60 := by rw [HL.out]; exact bytesB_le hb
      have hn160 : n1 ≤ 60 := by rw [HL1.out]; exact bytesB_le hz
      obtain ⟨a, rfl⟩ := Int.eq_ofNat_of_zero_le hp0
      rw [Int.toNat_natCast] at HO
      have hwm : waM a L1.length ≤ 60 := by unfold waM; omega
      have hwa : IntKind.i64.wrap ((a : Int) + ((waM a L1.length : Nat) : Int)) = (a : Int) + ((waM a L1.length : Nat) : Int) := IntWalk.i64_in _ (by omega)
      clear hv hb
      have x0 := (X1.out.2 0 _ rfl).1; have x1 := (X1.out.2 1 _ rfl).1
      go_wp2_with fail
      refine (areBytes_any G2.out).mono ?_
      rintro e w2 ⟨rfl, rfl⟩
      rw [hz]
      go_wp2_with fail
      refine (writtenAt_any (a := a) I1.out G2.out (by omega) (by omega) (by omega) (by omega) hc1 (by omega)).mono ?_
      rintro e w3 ⟨A3, n3, c3, rfl, hc3, hb3, hi3⟩
      have s3 := hb3.size
      have E3 := Lib.hid (below_step hb3 E1.out (by omega))
      have X3 := Lib.hid (X1.out.below hb3 (by omega))
      have R3 := Lib.hid (R1.out.below hb3 (by omega))
      have HI := Lib.hid hi3
      clear hb3 hi3
      clear x0 x1
      have x0 := (X3.out.2 0 _ rfl).1; have x1 := (X3.out.2 1 _ rfl).1
      have r0 := (R3.out.2 0 _ rfl).1; have r1 := (R3.out.2 1 _ rfl).1
      have g0 := (R3.out.2 0 _ rfl).2; have g1 := (R3.out.2 1 _ rfl).2
      generalize waM a L1.length = m at *
      go_wp2
      refine bodyPost_ret (v := .tuple #[.agg #[.slice (A3) n3 c3, .int .i64 ((a : Int) + (m : Int))], .int .i64 (m : Int)]) (by simp [results, Try.results22, go_sem, r0, r1, g0, g1]) rfl ?_
      rw [HO.out]
      refine ⟨A3, n3, c3, rfl, hc3, ?_, ?_, ?_⟩
      · (repeat (with_reducible refine below_set ?_ (by omega) _))
        exact E3.out
      · simp only [World.size_setCell]
        refine Ints.more (lo := w1.heap.size) (hi := w3.heap.size) ?_ (by omega) (by omega)
        (repeat (with_reducible refine Ints.set_ ?_ (by omega) _))
        exact HI.out
      · unfold okInt; show _ ≤ (a : Int) + (m : Int) ∧ (a : Int) + (m : Int) ≤ _; omega
set_option maxHeartbeats 4000000 in
theorem PlainSeek_x {A : Option Addr} {n c : Nat} {D : List Int} {p off wh : Int} {w : World} {L B : Nat} (h : Ints w L B A n D) (hB : B ≤ w.heap.size) (_hc : n ≤ c) (_hn : n ≤ 1048576) (_h1 : okInt off) (_h2 : okInt wh) :
    Calls Try.prog 20 #[.agg #[.slice (A) n c, .int .i64 (p)], .int .i64 off, .int .i64 wh] w (PostPB (psOut D p off wh) w) := by
  have H1 : Hid (Ints ((w.alloc (.cells #[.slice (A) n c, .int .i64 (p)] 35)).alloc (.cells #[.slice none 0 0, .int .i64 0] 35)) L B A n D) := (h.alloc hB _).alloc (by first | omega | (simp; omega) | (simp; done)) _
  have R0 : Hid (Box ((w.alloc (.cells #[.slice (A) n c, .int .i64 (p)] 35)).alloc (.cells #[.slice none 0 0, .int .i64 0] 35)) (w.heap.size + 1) [.slice none 0 0, .int .i64 0]) := by
    have hx := Box.new (w.alloc (.cells #[.slice (A) n c, .int .i64 (p)] 35)) 35 [.slice none 0 0, .int .i64 0]
    rw [World.size_alloc] at hx
    exact hx
  have X0 : Hid (Box ((w.alloc (.cells #[.slice (A) n c, .int .i64 (p)] 35)).alloc (.cells #[.slice none 0 0, .int .i64 0] 35)) w.heap.size [.slice (A) n c, .int .i64 (p)]) := (Box.new w 35 [.slice (A) n c, .int .i64 (p)]).alloc _
  have E0 : Hid (Below w.heap.size w ((w.alloc (.cells #[.slice (A) n c, .int .i64 (p)] 35)).alloc (.cells #[.slice none 0 0, .int .i64 0] 35))) := (by go_grown : Below w.heap.size w _)
  have s0 : (((w.alloc (.cells #[.slice (A) n c, .int .i64 (p)] 35)).alloc (.cells #[.slice none 0 0, .int .i64 0] 35))).heap.size = w.heap.size + 2 := by simp
  clear h
  have x0 := (X0.out.2 0 _ rfl).1; have x1 := (X0.out.2 1 _ rfl).1
  go_enter Try.func20, Try.ntmps20
  go_wp2_with fail
  generalize ((w.alloc (.cells #[.slice (A) n c, .int .i64 (p)] 35)).alloc (.cells #[.slice none 0 0, .int .i64 0] 35)) = w0 at *
  clear x0 x1
  refine deviceOf_any.mono ?_
  rintro e w1 ⟨rfl, hb1⟩
  have s1 := hb1.size
  have E1 := Lib.hid (below_step hb1 E0.out (by omega))
  have R1 := Lib.hid (R0.out.below hb1 (by omega))
  have I1 := Lib.hid (H1.out.below hb1 (by omega))
  clear hb1 H1 R0 E0
  go_wp2_with fail
  refine (SeekDevice_any I1.out (Ints.nil w1 0 0 0 none).1 (by omega) (by omega)).mono ?_
  rintro e w2 ⟨A2, n2, c2, A2', n2', c2', rfl, ⟨hc2, _⟩, hb2, hd, _, _, hok, _⟩
  have s2 := hb2.size
  have E2 := Lib.hid (below_step hb2 E1.out (by omega))
  have R2 := Lib.hid (R1.out.below hb2 (by omega))
  have HI := Lib.hid hd
  have HOK := Lib.hid hok
  have HO : Hid (psOut D p off wh = (Pv.mk (seekOut D p [] 0 off wh).1.d (seekOut D p [] 0 off wh).1.p, (seekOut D p [] 0 off wh).2)) := by show _ = _; rfl
  clear hb2 hd hok
  generalize (seekOut D p [] 0 off wh) = O at *
  obtain ⟨⟨od, op, os, oq⟩, ob⟩ := O
  have R3 := Lib.hid (R2.out.alloc (.cells #[.slice (A2) n2 c2, .int .i64 (op), .slice (A2') n2' c2', .int .i64 (oq)] 25))
  have X3 := Lib.hid (Box.new w2 25 [.slice (A2) n2 c2, .int .i64 (op), .slice (A2') n2' c2', .int .i64 (oq)])
  have E3 : Hid (Below w.heap.size w (w2.alloc (.cells #[.slice (A2) n2 c2, .int .i64 (op), .slice (A2') n2' c2', .int .i64 (oq)] 25))) := E2.out.alloc (by omega) _
  have I3 := Lib.hid (HI.out.alloc (Nat.le_refl _) (.cells #[.slice (A2) n2 c2, .int .i64 (op), .slice (A2') n2' c2', .int .i64 (oq)] 25))
  have s3 : (w2.alloc (.cells #[.slice (A2) n2 c2, .int .i64 (op), .slice (A2') n2' c2', .int .i64 (oq)] 25)).heap.size = w2.heap.size + 1 := by simp
  have r0 := (R3.out.2 0 _ rfl).1; have r1 := (R3.out.2 1 _ rfl).1
  have g0 := (R3.out.2 0 _ rfl).2; have g1 := (R3.out.2 1 _ rfl).2
  have x0 := (X3.out.2 0 _ rfl).1; have x1 := (X3.out.2 1 _ rfl).1; have x2 := (X3.out.2 2 _ rfl).1; have x3 := (X3.out.2 3 _ rfl).1
  go_upto_region 2 with (fail)
  generalize w2.alloc (.cells #[.slice (A2) n2 c2, .int .i64 (op), .slice (A2') n2' c2', .int .i64 (oq)] 25) = w3 at *
  go_wp2
  refine bodyPost_ret (v := .tuple #[.agg #[.slice (A2) n2 c2, .int .i64 (op)], .bool ob]) (by simp [results, Try.results20, go_sem, r0, r1, g0, g1]) rfl ?_
  rw [HO.out]
  refine ⟨A2, n2, c2, rfl, hc2, ?_, ?_, HOK.out⟩
  · (repeat (with_reducible refine below_set ?_ (by omega) _))
    exact E3.out
  · simp only [World.size_setCell]
    refine Ints.more (lo := w1.heap.size) (hi := w2.heap.size) ?_ (by omega) (by omega)
    (repeat (with_reducible refine Ints.set_ ?_ (by omega) _))
    exact I3.out
end Go.Proofs.Ytdiebkaedjlckaa
