/- Contracts of CutDevice, impl's and the model's. -/
import Derived.Test.YtbphijnhcpcclaaC1h
import Derived.Deep.DeepCutAuto
namespace Go.Proofs.Ytbphijnhcpcclaa
open Go.ChangeShapes Go.WideShapes Go.ChangeAt Go.RowKit
set_option linter.unusedSimpArgs false
set_option linter.unusedVariables false

/-- Bytes with a length. -/
def cutL (D : List Int) (m : Nat) : List Int := D.take m ++ List.replicate (m - D.length) 0
theorem cutL_len (D : List Int) (m : Nat) : (cutL D m).length = m := by simp [cutL]; omega
def cutOut (D : List Int) (p : Int) (S : List Int) (q z : Int) : Dv × Bool :=
  if validD D p S q && inB z 0 60 then (⟨cutL D z.toNat, p, S, q⟩, true) else (.zero, false)
theorem cutOut_le (D : List Int) (p : Int) (S : List Int) (q z : Int) : (cutOut D p S q z).1.d.length ≤ 60 ∧ (cutOut D p S q z).1.s.length ≤ 60 := by
  unfold cutOut
  split
  · have h := ‹(validD D p S q && inB z 0 60) = true›
    obtain ⟨hv, hz⟩ := Bool.and_eq_true_iff.1 h
    obtain ⟨_, hs, _⟩ := validD_iff.1 hv
    obtain ⟨h0, h1⟩ := inB_iff.1 hz
    exact ⟨by show (cutL D z.toNat).length ≤ 60; rw [cutL_len]; omega, by show S.length ≤ 60; omega⟩
  · exact ⟨by decide, by decide⟩
theorem cutL_ok {D : List Int} {m : Nat} (h : ∀ x ∈ D, okInt x) : ∀ x ∈ cutL D m, okInt x := by
  intro x hx
  unfold cutL at hx
  rcases List.mem_append.1 hx with h1 | h1
  · exact h x (List.mem_of_mem_take h1)
  · rw [List.eq_of_mem_replicate h1]; unfold okInt; omega
theorem splice_cut (D : List Int) (m : Nat) : splice (madeCells #[.int .i64 0] m).toList 0 ((D.take m).map (Value.int .i64)) = (cutL D m).map (Value.int .i64) := by
  have h1 : (madeCells #[Value.int .i64 0] m).toList = List.replicate m (Value.int .i64 0) := by
    apply List.ext_getElem?
    intro i
    rw [Array.getElem?_toList, List.getElem?_replicate]
    by_cases hi : i < m
    · simp [madeCells, hi, Nat.mod_one]
    · rw [if_neg hi, Array.getElem?_eq_none (by rw [size_madeCells]; omega)]
  rw [h1]
  unfold splice cutL
  simp only [List.take_zero, List.nil_append, Nat.zero_add, List.length_map, List.length_take, List.map_append, List.map_replicate, List.drop_replicate]
  rw [show m - min m D.length = m - D.length from by omega]

theorem Ints.cellsTake {w : World} {lo hi n m : Nat} {A : Option Addr} {xs : List Int} (h : Ints w lo hi A n xs) (hp : 0 < xs.length) :
    ∃ ad : Addr, A = some ad ∧ ∀ (j : Nat) (v : Value), (List.take m (List.map (Value.int .i64) xs))[j]? = some v → w.cell? (ad.add j) = some v := by
  obtain ⟨b, o, e, _, _, hc⟩ := h.2.2.2 (by have := h.1; omega)
  refine ⟨_, e, fun j v hv => ?_⟩
  rw [List.getElem?_take] at hv
  split at hv
  · rw [List.getElem?_map] at hv
    obtain ⟨x, hx, rfl⟩ := Option.map_eq_some_iff.1 hv
    rw [add_plain]
    exact (hc j x hx).1
  · cases hv

set_option maxHeartbeats 2000000 in
theorem cut_any {more : List Value} {A A' : Option Addr} {n c n' c' b m : Nat} {D : List Int} {p q : Int} {w : World} {L B : Nat} (hX : Box w b (.slice A n c :: .int .i64 p :: .slice A' n' c' :: .int .i64 q :: more)) (h : Ints w L B A n D) (hB : B ≤ w.heap.size) (hn : n ≤ 1048576) (hm : m ≤ 60) :
    Calls Try.prog 60 #[.pointer (some ⟨b, 0, none⟩), .int .i64 (m : Int)] w (fun e w' => ∃ A1, e = .returned (.tuple #[]) ∧ Turn w.heap.size b w w' ∧ Ints w' w.heap.size w'.heap.size A1 m (cutL D m) ∧ Box w' b (.slice A1 m m :: .int .i64 p :: .slice A' n' c' :: .int .i64 q :: more)) := by
  have HL := Lib.hid h.len
  have hok := Lib.hid h.ok
  have HX := Lib.hid hX
  have hbw := hX.lt
  have hmk := run_make_row' (P := Try.prog) 23 3 (.int .i64 0) 8 Try.underlying23 infoInt rfl .i64 .i64 m (by omega) (by omega)
  have H1 := Lib.hid (h.alloc hB (.cells (madeCells #[.int .i64 0] m) 3))
  have x0 := (hX.2 0 _ rfl).1
  clear h hX
  go_enter Try.func60, Try.ntmps60
  go_wp2_with (with_reducible refine wpList_copy_splice (o := ⟨some _, _, _, _, _, _⟩) rfl _ _ 23 23 rfl 3 Try.underlying23 sizeInt _ _ _ _ _ _ rfl rfl w.heap.size 0 (madeCells #[.int .i64 0] m).toList 3 ?c1 ((D.take m).map (Value.int .i64)) ?c2 ?c3 ?c4 ?c5 w.heap.size w ?c6 (Nat.le_refl _) ?_)
  case c1 => simpa using Go.Deep.blk_alloc_new w (.cells (madeCells #[.int .i64 0] m) 3)
  case c2 => rw [List.length_map, List.length_take, ← HL.out]; show min m n = min n m; omega
  case c3 => exact fun hp => H1.out.cellsTake (by omega)
  case c4 =>
    have hz : (madeCells #[Value.int .i64 0] m).toList.length = m := by rw [Array.length_toList, size_madeCells]
    rw [hz, List.length_map, List.length_take]; omega
  case c5 => exact fun v hv => by obtain ⟨x, _, rfl⟩ := List.mem_map.1 hv; rfl
  case c6 => go_grown
  intro w1 hw1 hb1
  have HW1 : Hid (w1.heap[w.heap.size]? = some (.cells ((cutL D m).map (Value.int .i64)).toArray 3 (0, 0))) := by
    have h := hw1.out
    rw [← splice_cut, List.map_take]
    exact h
  have HB1 := Lib.hid hb1
  have s1 : w.heap.size < w1.heap.size := (Array.getElem?_eq_some_iff.1 HW1.out).1
  have X1 := Lib.hid (HX.out.below hb1 hbw)
  have K1 : Hid (Ints w1 w.heap.size w1.heap.size (some ⟨w.heap.size, 0, none⟩) m (cutL D m)) := by
    have h := Ints.of_cells (lo := w.heap.size) (hi := w1.heap.size) HW1.out (by rw [cutL_len]; omega) (cutL_ok hok.out) (Nat.le_refl _) s1
    rw [cutL_len] at h
    exact h
  clear hw1 hb1 x0 hmk H1 HX
  have x0 := (X1.out.2 0 _ rfl).1
  have f0 := (X1.out.2 0 _ rfl).2
  go_wp2
  refine bodyPost_end (v := .tuple #[]) (by simp [results, Try.results60, go_sem]) rfl ?_
  refine ⟨some ⟨w.heap.size, 0, none⟩, rfl, (Turn.of_below HB1.out (Nat.le_refl _)).put _, ?_, ?_⟩
  · simp only [World.size_setCell]
    exact K1.out.set_ (Or.inl hbw) _
  · have hx := X1.out.put (i := 0) (by simp) (.slice (some ⟨w.heap.size, 0, none⟩) m m)
    simpa using hx

set_option maxHeartbeats 2000000 in
theorem CutDevice_any {A A' : Option Addr} {n c n' c' : Nat} {D S : List Int} {p q z : Int} {w : World} {L L' B B' : Nat} (h : Ints w L B A n D) (h' : Ints w L' B' A' n' S) (hB : B ≤ w.heap.size) (hB' : B' ≤ w.heap.size) :
    Calls Try.prog 23 #[.agg #[.slice (A) n c, .int .i64 (p), .slice (A') n' c', .int .i64 (q)], .int .i64 z] w (Post2 (cutOut D p S q z) w) := by
  have HL := Lib.hid h.len
  have HL' := Lib.hid h'.len
  have hok := Lib.hid h.ok
  have H1 := Lib.hid (fun o => (h.alloc hB (.cells #[.slice (A) n c, .int .i64 (p), .slice (A') n' c', .int .i64 (q)] 27)).alloc (by first | omega | (simp; omega) | (simp; done)) o)
  have H2 := Lib.hid (fun o => (h'.alloc hB' (.cells #[.slice (A) n c, .int .i64 (p), .slice (A') n' c', .int .i64 (q)] 27)).alloc (by first | omega | (simp; omega) | (simp; done)) o)
  have X0 := Lib.hid ((Box.new w 27 [.slice (A) n c, .int .i64 (p), .slice (A') n' c', .int .i64 (q)]).alloc (.cells #[.slice none 0 0, .int .i64 0, .slice none 0 0, .int .i64 0] 27))
  have R0 := Lib.hid (Box.new (w.alloc (.cells #[.slice (A) n c, .int .i64 (p), .slice (A') n' c', .int .i64 (q)] 27)) 27 [.slice none 0 0, .int .i64 0, .slice none 0 0, .int .i64 0])
  (try simp only [World.size_alloc, World.size_setCell, World.size_drew] at R0)
  by_cases hv : (validD D p S q && inB z 0 60) = true
  · obtain ⟨hvv, hz⟩ := Bool.and_eq_true_iff.1 hv
    obtain ⟨hbD, hS12, _, ⟨hp0, hp1⟩, hq0, hq1⟩ := validD_iff.1 hvv
    obtain ⟨hz0, hz1⟩ := inB_iff.1 hz
    obtain ⟨m, rfl⟩ := Int.eq_ofNat_of_zero_le hz0
    have hn60 : n ≤ 60 := by rw [HL.out]; exact bytesB_le hbD
    have hn12 : n' ≤ 12 := by rw [HL'.out]; exact hS12
    have HO : Hid (cutOut D p S q m = (⟨cutL D m, p, S, q⟩, true)) := by show _ = _; simp [cutOut, hvv, hz]
    have HV := Lib.hid hvv
    clear hv hvv hbD hS12
    go_enter Try.func23, Try.ntmps23
    go_wp2_with fail
    refine (ValidDevice_any (H1.out _) (H2.out _) (by first | omega | (simp; omega) | (simp; done)) (by first | omega | (simp; omega) | (simp; done))).mono ?_
    rintro e w1 ⟨rfl, hb1⟩
    rw [HV.out]
    (try simp only [World.size_alloc, World.size_setCell, World.size_drew] at hb1)
    have HB1 := Lib.hid hb1
    clear hb1
    have s1 := HB1.out.size
    (try simp only [World.size_alloc, World.size_setCell, World.size_drew] at s1)
    have X1 := Lib.hid (X0.out.below HB1.out (by omega))
    have R1 := Lib.hid (R0.out.below HB1.out (by omega))
    have I1 := Lib.hid ((H1.out _).below HB1.out (by omega))
    have I2 := Lib.hid ((H2.out _).below HB1.out (by omega))
    have x0 := (X1.out.2 0 _ rfl).1; have x1 := (X1.out.2 1 _ rfl).1; have x2 := (X1.out.2 2 _ rfl).1; have x3 := (X1.out.2 3 _ rfl).1
    go_wp2_with (first | (go_at_call 48; refine (isIn_any).mono ?_; rintro e w' ⟨rfl, rfl⟩) | fail)
    clear x0 x1 x2 x3
    refine (copyDevice_any I1.out I2.out (by omega) (by omega) (by omega) (by omega) (by unfold okInt; omega) (by unfold okInt; omega)).mono ?_
    rintro e w2 ⟨A2, n2, c2, A2', n2', c2', rfl, ⟨hc2, hc2'⟩, hb2, hd2, hd2', hap, hp2, hq2⟩
    have HB2 := Lib.hid hb2
    have s2 := hb2.size
    have HAP := Lib.hid hap
    have HD2 := Lib.hid (hd2.alloc (Nat.le_refl _) (.cells #[.slice (A2) n2 c2, .int .i64 (p), .slice (A2') n2' c2', .int .i64 (q)] 27))
    have HD2' := Lib.hid (hd2'.alloc (Nat.le_refl _) (.cells #[.slice (A2) n2 c2, .int .i64 (p), .slice (A2') n2' c2', .int .i64 (q)] 27))
    have Y2 := Lib.hid (Box.new w2 27 [.slice (A2) n2 c2, .int .i64 (p), .slice (A2') n2' c2', .int .i64 (q)])
    have hn2 : n2 ≤ 60 := by have := hd2.len; have := HL.out; omega
    have R2 := Lib.hid ((R1.out.below hb2 (by omega)).alloc (.cells #[.slice (A2) n2 c2, .int .i64 (p), .slice (A2') n2' c2', .int .i64 (q)] 27))
    have E2 := Lib.hid ((below_step hb2 (below_step HB1.out (by go_grown) (by first | omega | (simp; omega) | (simp; done)) : Below w.heap.size w w1) (by omega)).alloc (by omega) (.cells #[.slice (A2) n2 c2, .int .i64 (p), .slice (A2') n2' c2', .int .i64 (q)] 27))
    clear hb2 hd2 hd2' hap R1 X1 I1 I2
    go_wp2_with fail
    refine (cut_any Y2.out HD2.out (by first | omega | (simp; omega) | (simp; done)) (by omega) (by omega)).mono ?_
    rintro e w3 ⟨A3, rfl, ht, hi3, hx3⟩
    (try simp only [World.size_alloc, World.size_setCell, World.size_drew] at ht hi3)
    have s3 := ht.size
    (try simp only [World.size_alloc, World.size_setCell, World.size_drew] at s3)
    have D3' := Lib.hid (HD2'.out.turn ht (by omega) (by omega))
    have R3 := Lib.hid (R2.out.turn ht (by omega) (by omega))
    have E3 : Hid (Below w.heap.size w w3) := E2.out.trans (ht.below (by omega) (by omega))
    have K3 := Lib.hid hi3
    have X3 := Lib.hid hx3
    clear ht hi3 hx3 R2 E2
    have o0 := (X3.out.2 0 _ rfl).1; have o1 := (X3.out.2 1 _ rfl).1; have o2 := (X3.out.2 2 _ rfl).1; have o3 := (X3.out.2 3 _ rfl).1
    have x0 := (R3.out.2 0 _ rfl).1; have x1 := (R3.out.2 1 _ rfl).1; have x2 := (R3.out.2 2 _ rfl).1; have x3 := (R3.out.2 3 _ rfl).1
    have f0 := (R3.out.2 0 _ rfl).2; have f1 := (R3.out.2 1 _ rfl).2; have f2 := (R3.out.2 2 _ rfl).2; have f3 := (R3.out.2 3 _ rfl).2
    go_wp2
    refine bodyPost_ret (v := .tuple #[.agg #[.slice (A3) m m, .int .i64 (p), .slice (A2') n2' c2', .int .i64 (q)], .bool true]) (by simp [results, Try.results23, go_sem, x0, x1, x2, x3, f0, f1, f2, f3]) rfl ?_
    rw [HO.out]
    refine ⟨_, _, _, _, _, _, rfl, ⟨Nat.le_refl _, hc2'⟩, ?_, ⟨?_, ?_, (Apart.of_le D3'.out K3.out (by omega)).symm, hp2, hq2⟩⟩
    · (repeat (with_reducible refine below_set ?_ (by omega) _))
      exact E3.out
    · simp only [World.size_setCell]
      refine Ints.more (lo := w2.heap.size + 1) (hi := w3.heap.size) ?_ (by omega) (by omega)
      (repeat (with_reducible refine Ints.set_ ?_ (by omega) _))
      exact K3.out
    · simp only [World.size_setCell]
      refine Ints.more (lo := w1.heap.size) (hi := w2.heap.size) ?_ (by omega) (by omega)
      (repeat (with_reducible refine Ints.set_ ?_ (by omega) _))
      exact D3'.out
  · have HO : Hid (cutOut D p S q z = (.zero, false)) := by show _ = _; rw [cutOut, if_neg hv]
    cases h1 : validD D p S q
    · have HV := Lib.hid h1
      clear h1 hv
      go_enter Try.func23, Try.ntmps23
      go_wp2_with fail
      refine (ValidDevice_any (H1.out _) (H2.out _) (by first | omega | (simp; omega) | (simp; done)) (by first | omega | (simp; omega) | (simp; done))).mono ?_
      rintro e w1 ⟨rfl, hb1⟩
      rw [HV.out]
      (try simp only [World.size_alloc, World.size_setCell, World.size_drew] at hb1)
      have HB1 := Lib.hid hb1
      clear hb1
      have R1 := Lib.hid (R0.out.below HB1.out (by omega))
      have x0 := (R1.out.2 0 _ rfl).1; have x1 := (R1.out.2 1 _ rfl).1; have x2 := (R1.out.2 2 _ rfl).1; have x3 := (R1.out.2 3 _ rfl).1
      have f0 := (R1.out.2 0 _ rfl).2; have f1 := (R1.out.2 1 _ rfl).2; have f2 := (R1.out.2 2 _ rfl).2; have f3 := (R1.out.2 3 _ rfl).2
      go_wp2
      refine bodyPost_ret (v := .tuple #[.agg #[.slice none 0 0, .int .i64 0, .slice none 0 0, .int .i64 0], .bool false]) (by simp [results, Try.results23, go_sem, x0, x1, x2, x3, f0, f1, f2, f3]) rfl ?_
      rw [HO.out]
      refine Post2.zero ?_
      (repeat (with_reducible refine below_set ?_ (by omega) _))
      exact below_step HB1.out (by go_grown) (by first | omega | (simp; omega) | (simp; done))
    · have h2 : inB z 0 60 = false := by rw [h1] at hv; simpa using hv
      have HV := Lib.hid h1
      clear h1 hv
      go_enter Try.func23, Try.ntmps23
      go_wp2_with fail
      refine (ValidDevice_any (H1.out _) (H2.out _) (by first | omega | (simp; omega) | (simp; done)) (by first | omega | (simp; omega) | (simp; done))).mono ?_
      rintro e w1 ⟨rfl, hb1⟩
      rw [HV.out]
      (try simp only [World.size_alloc, World.size_setCell, World.size_drew] at hb1)
      have HB1 := Lib.hid hb1
      clear hb1
      have R1 := Lib.hid (R0.out.below HB1.out (by omega))
      have x0 := (R1.out.2 0 _ rfl).1; have x1 := (R1.out.2 1 _ rfl).1; have x2 := (R1.out.2 2 _ rfl).1; have x3 := (R1.out.2 3 _ rfl).1
      have f0 := (R1.out.2 0 _ rfl).2; have f1 := (R1.out.2 1 _ rfl).2; have f2 := (R1.out.2 2 _ rfl).2; have f3 := (R1.out.2 3 _ rfl).2
      go_wp2_with (go_at_call 48; refine (isIn_any).mono ?_; rintro e w' ⟨rfl, rfl⟩)
      refine bodyPost_ret (v := .tuple #[.agg #[.slice none 0 0, .int .i64 0, .slice none 0 0, .int .i64 0], .bool false]) (by simp [results, Try.results23, go_sem, x0, x1, x2, x3, f0, f1, f2, f3]) rfl ?_
      rw [HO.out]
      refine Post2.zero ?_
      (repeat (with_reducible refine below_set ?_ (by omega) _))
      exact below_step HB1.out (by go_grown) (by first | omega | (simp; omega) | (simp; done))
theorem CutDevice_x {A A' : Option Addr} {n c n' c' : Nat} {D S : List Int} {p q z : Int} {w : World} {L L' B B' : Nat} (h : Ints w L B A n D) (h' : Ints w L' B' A' n' S) (hB : B ≤ w.heap.size) (hB' : B' ≤ w.heap.size) (_hc : n ≤ c) (_hc' : n' ≤ c') (_hn : n ≤ 1048576) (_hn' : n' ≤ 1048576) (_h1 : okInt z) :
    Calls Try.prog 23 #[.agg #[.slice (A) n c, .int .i64 (p), .slice (A') n' c', .int .i64 (q)], .int .i64 z] w (Post2 (cutOut D p S q z) w) := CutDevice_any h h' hB hB'
end Go.Proofs.Ytbphijnhcpcclaa
