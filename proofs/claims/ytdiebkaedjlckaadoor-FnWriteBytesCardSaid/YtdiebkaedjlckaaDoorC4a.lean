/- Contracts of plain files, the program's. -/
import Derived.Test.YtdiebkaedjlckaaDoorC1k
import Derived.Test.YtdiebkaedjlckaaDoorC1h
import Derived.Deep.RegionHeld3
import Derived.Deep.DeepCutAuto
namespace Go.Proofs.YtdiebkaedjlckaaDoor
open Go.ChangeShapes Go.WideShapes Go.ChangeAt Go.RowKit
set_option linter.unusedSimpArgs false
set_option linter.unusedVariables false
set_option maxRecDepth 10000

/-- A plain file's data. -/
structure Pv where
  d : List Int
  p : Int
def Pv.zero : Pv := ⟨[], 0⟩
def validP (D : List Int) (p : Int) : Bool := bytesB D && inB p 0 60
theorem validP_D (D : List Int) (p : Int) : validD D p [] 0 = validP D p := by simp [validD, validP, allB, inB]
theorem validP_iff {D : List Int} {p : Int} : validP D p = true ↔ bytesB D = true ∧ 0 ≤ p ∧ p ≤ 60 := by simp [validP, inB]
def prL (D : List Int) (p z : Int) : List Int := (D.drop p.toNat).take z.toNat
/-- What PlainRead gives. -/
def prOut (D : List Int) (p z : Int) : Pv × List Int := if validP D p && inB z 0 60 then (⟨D, p + ((prL D p z).length : Int)⟩, prL D p z) else (.zero, [])
theorem prOut_le (D : List Int) (p z : Int) : (prOut D p z).1.d.length ≤ 60 ∧ (prOut D p z).2.length ≤ 60 := by
  unfold prOut
  split
  · have h := bytesB_le (validP_iff.1 (Bool.and_eq_true_iff.1 ‹_›).1).1
    refine ⟨h, ?_⟩
    show (prL D p z).length ≤ 60
    unfold prL
    rw [List.length_take, List.length_drop]
    omega
  · exact ⟨by decide, by decide⟩
/-- What PlainWrite gives. -/
def pwOut (D : List Int) (p : Int) (L : List Int) : Pv × Int := if validP D p && bytesB L then (⟨wrL D p.toNat (L.take (waM p.toNat L.length)), p + (waM p.toNat L.length : Nat)⟩, (waM p.toNat L.length : Nat)) else (.zero, 0)
theorem pwOut_le0 (D : List Int) (p : Int) (L : List Int) : (pwOut D p L).1.d.length ≤ 60 := by
  unfold pwOut
  split
  · obtain ⟨h, hp⟩ := validP_iff.1 (Bool.and_eq_true_iff.1 ‹_›).1
    have h60 := bytesB_le h
    show (wrL D p.toNat (L.take (waM p.toNat L.length))).length ≤ 60
    by_cases h0 : L.take (waM p.toNat L.length) = []
    · rw [h0]; simpa [wrL] using h60
    · rw [wrL_len (List.length_pos_iff.2 h0), List.length_take]
      unfold waM
      omega
  · decide
theorem pwOut_le (D : List Int) (p : Int) (L : List Int) : (pwOut D p L).1.d.length ≤ 60 ∧ True := ⟨pwOut_le0 D p L, trivial⟩
/-- What PlainSeek gives. -/
def psOut (D : List Int) (p off wh : Int) : Pv × Bool := (⟨(seekOut D p [] 0 off wh).1.d, (seekOut D p [] 0 off wh).1.p⟩, (seekOut D p [] 0 off wh).2)
theorem psOut_le (D : List Int) (p off wh : Int) : (psOut D p off wh).1.d.length ≤ 60 ∧ True := ⟨(seekOut_le D p [] 0 off wh).1, trivial⟩

/-- A plain file and a list in new memory. -/
def PostPL (o : Pv × List Int) (w : World) (e : Ending) (w' : World) : Prop :=
  ∃ A n c X l k, e = .returned (.tuple #[.agg #[.slice (A) n c, .int .i64 (o.1.p)], .slice X l k]) ∧ (n ≤ c ∧ l ≤ k) ∧ Below w.heap.size w w' ∧ Ints w' w.heap.size w'.heap.size A n o.1.d ∧ Ints w' w.heap.size w'.heap.size X l o.2 ∧ Apart X l A n ∧ okInt o.1.p
def PostPI (o : Pv × Int) (w : World) (e : Ending) (w' : World) : Prop :=
  ∃ A n c, e = .returned (.tuple #[.agg #[.slice (A) n c, .int .i64 (o.1.p)], .int .i64 o.2]) ∧ n ≤ c ∧ Below w.heap.size w w' ∧ Ints w' w.heap.size w'.heap.size A n o.1.d ∧ okInt o.1.p
def PostPB (o : Pv × Bool) (w : World) (e : Ending) (w' : World) : Prop :=
  ∃ A n c, e = .returned (.tuple #[.agg #[.slice (A) n c, .int .i64 (o.1.p)], .bool o.2]) ∧ n ≤ c ∧ Below w.heap.size w w' ∧ Ints w' w.heap.size w'.heap.size A n o.1.d ∧ okInt o.1.p
theorem ok0 : okInt 0 := by unfold okInt; omega

set_option maxHeartbeats 1000000 in
theorem deviceOf_any {A : Option Addr} {n c : Nat} {p : Int} {w : World} :
    Calls Tryd.prog 115 #[.agg #[.slice (A) n c, .int .i64 (p)]] w (fun e w' => e = .returned (.agg #[.slice (A) n c, .int .i64 (p), .slice (none) 0 0, .int .i64 (0)]) ∧ Below w.heap.size w w') := by
  have X0 : Hid (Box ((w.alloc (.cells #[.slice (A) n c, .int .i64 (p)] 62)).alloc (.cells #[.slice none 0 0, .int .i64 0, .slice none 0 0, .int .i64 0] 28)) w.heap.size [.slice (A) n c, .int .i64 (p)]) := (Box.new w 62 [.slice (A) n c, .int .i64 (p)]).alloc _
  have R0 : Hid (Box ((w.alloc (.cells #[.slice (A) n c, .int .i64 (p)] 62)).alloc (.cells #[.slice none 0 0, .int .i64 0, .slice none 0 0, .int .i64 0] 28)) (w.heap.size + 1) [.slice none 0 0, .int .i64 0, .slice none 0 0, .int .i64 0]) := by
    have hx := Box.new (w.alloc (.cells #[.slice (A) n c, .int .i64 (p)] 62)) 28 [.slice none 0 0, .int .i64 0, .slice none 0 0, .int .i64 0]
    rw [World.size_alloc] at hx
    exact hx
  have E0 : Hid (Below w.heap.size w ((w.alloc (.cells #[.slice (A) n c, .int .i64 (p)] 62)).alloc (.cells #[.slice none 0 0, .int .i64 0, .slice none 0 0, .int .i64 0] 28))) := (by go_grown : Below w.heap.size w _)
  have s0 : (((w.alloc (.cells #[.slice (A) n c, .int .i64 (p)] 62)).alloc (.cells #[.slice none 0 0, .int .i64 0, .slice none 0 0, .int .i64 0] 28))).heap.size = w.heap.size + 2 := by simp
  have x0 := (X0.out.2 0 _ rfl).1; have x1 := (X0.out.2 1 _ rfl).1
  have r0 := (R0.out.2 0 _ rfl).1; have r1 := (R0.out.2 1 _ rfl).1; have r2 := (R0.out.2 2 _ rfl).1; have r3 := (R0.out.2 3 _ rfl).1
  have g0 := (R0.out.2 0 _ rfl).2; have g1 := (R0.out.2 1 _ rfl).2; have g2 := (R0.out.2 2 _ rfl).2; have g3 := (R0.out.2 3 _ rfl).2
  go_enter Tryd.func115, Tryd.ntmps115
  go_upto_region 1 with (fail)
  generalize ((w.alloc (.cells #[.slice (A) n c, .int .i64 (p)] 62)).alloc (.cells #[.slice none 0 0, .int .i64 0, .slice none 0 0, .int .i64 0] 28)) = w0 at *
  go_wp2
  refine bodyPost_ret (v := .agg #[.slice (A) n c, .int .i64 (p), .slice (none) 0 0, .int .i64 (0)]) (by simp [results, Tryd.results115, go_sem, r0, r1, r2, r3, g0, g1, g2, g3]) rfl ?_
  refine ⟨rfl, ?_⟩
  (repeat (with_reducible refine below_set ?_ (by omega) _))
  exact E0.out
set_option maxHeartbeats 1000000 in
theorem isPlain_any {A : Option Addr} {n c : Nat} {D : List Int} {p : Int} {w : World} {L B : Nat} (h : Ints w L B A n D) (hB : B ≤ w.heap.size) :
    Calls Tryd.prog 82 #[.agg #[.slice (A) n c, .int .i64 (p)]] w (BoolB (validP D p) w) := by
  have H1 := Lib.hid (h.alloc hB (.cells #[.slice (A) n c, .int .i64 (p)] 62))
  clear h
  go_enter Tryd.func82, Tryd.ntmps82
  go_wp2_with fail
  refine deviceOf_any.mono ?_
  rintro e w1 ⟨rfl, hb1⟩
  (try simp only [World.size_alloc, World.size_setCell, World.size_drew] at hb1)
  have s1 := hb1.size
  (try simp only [World.size_alloc, World.size_setCell, World.size_drew] at s1)
  have I1 := Lib.hid (H1.out.below hb1 (by omega))
  have E1 : Hid (Below w.heap.size w w1) := below_step hb1 (by go_grown) (by omega)
  clear hb1 H1
  go_wp2_with fail
  refine (ValidDevice_any I1.out (Ints.nil w1 0 0 0 none).1 (by omega) (by omega)).mono ?_
  rintro e w2 ⟨rfl, hb2⟩
  have HB := Lib.hid hb2
  clear hb2
  go_wp2
  go_ret
  exact ⟨ret_bool (validP_D D p), below_step HB.out E1.out (by omega)⟩
set_option maxHeartbeats 4000000 in
theorem PlainWrite_x {A A1 : Option Addr} {n c n1 c1 : Nat} {D L1 : List Int} {p : Int} {w : World} {L B L' B' : Nat} (h : Ints w L B A n D) (h' : Ints w L' B' A1 n1 L1) (hB : B ≤ w.heap.size) (hB' : B' ≤ w.heap.size) (hc : n ≤ c) (hc1 : n1 ≤ c1) (_hn : n ≤ 1048576) (_hn1 : n1 ≤ 1048576) :
    Calls Tryd.prog 39 #[.agg #[.slice (A) n c, .int .i64 (p)], .slice A1 n1 c1] w (PostPI (pwOut D p L1) w) := by
  have HL := Lib.hid h.len
  have HL1 := Lib.hid h'.len
  have H1 : Hid (Ints ((w.alloc (.cells #[.slice (A) n c, .int .i64 (p)] 62)).alloc (.cells #[.slice none 0 0, .int .i64 0] 62)) L B A n D) := (h.alloc hB _).alloc (by first | omega | (simp; omega) | (simp; done)) _
  have G1 : Hid (Ints ((w.alloc (.cells #[.slice (A) n c, .int .i64 (p)] 62)).alloc (.cells #[.slice none 0 0, .int .i64 0] 62)) L' B' A1 n1 L1) := (h'.alloc hB' _).alloc (by first | omega | (simp; omega) | (simp; done)) _
  have X0 : Hid (Box ((w.alloc (.cells #[.slice (A) n c, .int .i64 (p)] 62)).alloc (.cells #[.slice none 0 0, .int .i64 0] 62)) w.heap.size [.slice (A) n c, .int .i64 (p)]) := (Box.new w 62 [.slice (A) n c, .int .i64 (p)]).alloc _
  have R0 : Hid (Box ((w.alloc (.cells #[.slice (A) n c, .int .i64 (p)] 62)).alloc (.cells #[.slice none 0 0, .int .i64 0] 62)) (w.heap.size + 1) [.slice none 0 0, .int .i64 0]) := by
    have hx := Box.new (w.alloc (.cells #[.slice (A) n c, .int .i64 (p)] 62)) 62 [.slice none 0 0, .int .i64 0]
    rw [World.size_alloc] at hx
    exact hx
  have E0 : Hid (Below w.heap.size w ((w.alloc (.cells #[.slice (A) n c, .int .i64 (p)] 62)).alloc (.cells #[.slice none 0 0, .int .i64 0] 62))) := (by go_grown : Below w.heap.size w _)
  have s0 : (((w.alloc (.cells #[.slice (A) n c, .int .i64 (p)] 62)).alloc (.cells #[.slice none 0 0, .int .i64 0] 62))).heap.size = w.heap.size + 2 := by simp
  clear h h'
  have x0 := (X0.out.2 0 _ rfl).1; have x1 := (X0.out.2 1 _ rfl).1
  go_enter Tryd.func39, Tryd.ntmps39
  go_wp2_with fail
  generalize ((w.alloc (.cells #[.slice (A) n c, .int .i64 (p)] 62)).alloc (.cells #[.slice none 0 0, .int .i64 0] 62)) = w0 at *
  clear x0 x1
  refine (isPlain_any H1.out (by omega)).mono ?_
  rintro e w1 ⟨rfl, hb1⟩
  have s1 := hb1.size
  have E1 := Lib.hid (below_step hb1 E0.out (by omega))
  have X1 := Lib.hid (X0.out.below hb1 (by omega))
  have R1 := Lib.hid (R0.out.below hb1 (by omega))
  have I1 := Lib.hid (H1.out.below hb1 (by omega))
  have G2 := Lib.hid (G1.out.below hb1 (by omega))
  clear hb1 H1 G1 X0 R0 E0
  cases hv : validP D p
  · have HO : Hid (pwOut D p L1 = (Pv.zero, 0)) := by show _ = _; simp [pwOut, hv]
    clear hv
    have r0 := (R1.out.2 0 _ rfl).1; have r1 := (R1.out.2 1 _ rfl).1
    have g0 := (R1.out.2 0 _ rfl).2; have g1 := (R1.out.2 1 _ rfl).2
    go_wp2
    refine bodyPost_ret (v := .tuple #[.agg #[.slice none 0 0, .int .i64 0], .int .i64 0]) (by simp [results, Tryd.results39, go_sem, r0, r1, g0, g1]) rfl ?_
    rw [HO.out]
    refine ⟨none, 0, 0, rfl, Nat.le_refl _, ?_, (Ints.nil _ _ _ 0 _).1, ok0⟩
    (repeat (with_reducible refine below_set ?_ (by omega) _))
    exact E1.out
  · cases hz : bytesB L1
    · have HO : Hid (pwOut D p L1 = (Pv.zero, 0)) := by show _ = _; simp [pwOut, hz]
      clear hv
      have r0 := (R1.out.2 0 _ rfl).1; have r1 := (R1.out.2 1 _ rfl).1
      have g0 := (R1.out.2 0 _ rfl).2; have g1 := (R1.out.2 1 _ rfl).2
      go_wp2_with fail
      refine (areBytes_any G2.out).mono ?_
      rintro e w2 ⟨rfl, rfl⟩
      rw [hz]
      go_wp2
      refine bodyPost_ret (v := .tuple #[.agg #[.slice none 0 0, .int .i64 0], .int .i64 0]) (by simp [results, Tryd.results39, go_sem, r0, r1, g0, g1]) rfl ?_
      rw [HO.out]
      refine ⟨none, 0, 0, rfl, Nat.le_refl _, ?_, (Ints.nil _ _ _ 0 _).1, ok0⟩
      (repeat (with_reducible refine below_set ?_ (by omega) _))
      exact E1.out
    · have HO : Hid (pwOut D p L1 = (Pv.mk (wrL D p.toNat (L1.take (waM p.toNat L1.length))) (p + ((waM p.toNat L1.length : Nat) : Int)), ((waM p.toNat L1.length : Nat) : Int))) := by show _ = _; simp [pwOut, hz, hv]
      obtain ⟨hb, hp0, hp1⟩ := validP_iff.1 hv
      have hn60 : n ≤ 60 := by rw [HL.out]; exact bytesB_le hb
      have hn160 : n1 ≤ 60 := by rw [HL1.out]; exact bytesB_le hz
      obtain ⟨a, rfl⟩ := Int.eq_ofNat_of_zero_le hp0
      rw [Int.toNat_natCast] at HO
      have hwm : waM a L1.length ≤ 60 := by unfold waM; omega
      have hwa : IntKind.i64.wrap ((a : Int) + ((waM a L1.length : Nat) : Int)) = (a : Int) + ((waM a L1.length : Nat) : Int) := IntWalk.i64_in _ (by omega)
      clear hv hb
      have x0 := (X1.out.2 0 _ rfl).1; have x1 := (X1.out.2 1 _ rfl).1
      go_wp2_with fail
      refine (areBytes_any G2.out).mono ?_
      rintro e w2 ⟨rfl, rfl⟩
      rw [hz]
      go_wp2_with fail
      refine (writtenAt_any (a := a) I1.out G2.out (by omega) (by omega) (by omega) (by omega) hc1 (by omega)).mono ?_
      rintro e w3 ⟨A3, n3, c3, rfl, hc3, hb3, hi3⟩
      have s3 := hb3.size
      have E3 := Lib.hid (below_step hb3 E1.out (by omega))
      have X3 := Lib.hid (X1.out.below hb3 (by omega))
      have R3 := Lib.hid (R1.out.below hb3 (by omega))
      have HI := Lib.hid hi3
      clear hb3 hi3
      clear x0 x1
      have x0 := (X3.out.2 0 _ rfl).1; have x1 := (X3.out.2 1 _ rfl).1
      have r0 := (R3.out.2 0 _ rfl).1; have r1 := (R3.out.2 1 _ rfl).1
      have g0 := (R3.out.2 0 _ rfl).2; have g1 := (R3.out.2 1 _ rfl).2
      generalize waM a L1.length = m at *
      go_wp2
      refine bodyPost_ret (v := .tuple #[.agg #[.slice (A3) n3 c3, .int .i64 ((a : Int) + (m : Int))], .int .i64 (m : Int)]) (by simp [results, Tryd.results39, go_sem, r0, r1, g0, g1]) rfl ?_
      rw [HO.out]
      refine ⟨A3, n3, c3, rfl, hc3, ?_, ?_, ?_⟩
      · (repeat (with_reducible refine below_set ?_ (by omega) _))
        exact E3.out
      · simp only [World.size_setCell]
        refine Ints.more (lo := w1.heap.size) (hi := w3.heap.size) ?_ (by omega) (by omega)
        (repeat (with_reducible refine Ints.set_ ?_ (by omega) _))
        exact HI.out
      · unfold okInt; show _ ≤ (a : Int) + (m : Int) ∧ (a : Int) + (m : Int) ≤ _; omega
end Go.Proofs.YtdiebkaedjlckaaDoor
