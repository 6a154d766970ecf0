/- Contracts of writtenAt, of a device's 'write' and of WriteDevice, the program's. -/
import Derived.Test.YtjilbjkmnmbfeaaC1f
import Derived.Test.YtjilbjkmnmbfeaaS1b
import Derived.IntWalk
namespace Go.Proofs.Ytjilbjkmnmbfeaa
open Go.ChangeShapes Go.WideShapes Go.ChangeAt Go.RowKit
set_option linter.unusedSimpArgs false
set_option linter.unusedVariables false

/-- How many bytes of m a call writes, how it ends, and the bytes behind it. -/
def wrM (p k : Int) (m : Nat) : Nat := if k < 1 then 0 else min (min m k.toNat) (60 - p.toNat)
def wrSt (p k : Int) : Int := if k < 0 then 3 else if k = 0 then 2 else if 60 ≤ p then 4 else 0
def wrL (D : List Int) (a : Nat) (L : List Int) : List Int := if L = [] then D else D.take a ++ (List.replicate (a - D.length) 0 ++ (L ++ D.drop (a + L.length)))
theorem wrL_len {D L : List Int} {a : Nat} (h : 1 ≤ L.length) : (wrL D a L).length = max D.length (a + L.length) := by
  unfold wrL
  rw [if_neg (by rintro rfl; simp at h)]
  simp
  omega
theorem wrL_ok {D L : List Int} {a : Nat} (h : ∀ x ∈ D, okInt x) (h' : ∀ x ∈ L, okInt x) : ∀ x ∈ wrL D a L, okInt x := by
  intro x hx
  unfold wrL at hx
  split at hx
  · exact h x hx
  · rcases List.mem_append.1 hx with h1 | h1
    · exact h x (List.mem_of_mem_take h1)
    · rcases List.mem_append.1 h1 with h1 | h1
      · rw [List.eq_of_mem_replicate h1]; unfold okInt; omega
      · rcases List.mem_append.1 h1 with h1 | h1
        · exact h' x h1
        · exact h x (List.mem_of_mem_drop h1)
theorem made_rep (m : Nat) : (madeCells #[Value.int .i64 0] m).toList = (List.replicate m (0 : Int)).map (Value.int .i64) := by
  rw [List.map_replicate]
  apply List.ext_getElem?
  intro i
  rw [Array.getElem?_toList, List.getElem?_replicate]
  by_cases hi : i < m
  · simp [madeCells, hi, Nat.mod_one]
  · rw [if_neg hi, Array.getElem?_eq_none (by rw [size_madeCells]; omega)]
theorem splice_map (f : Int → Value) (xs cs : List Int) (o : Nat) : splice (xs.map f) o (cs.map f) = (splice xs o cs).map f := by
  simp [splice]
theorem splice_data (D : List Int) {T : Nat} (h : D.length ≤ T) : splice (List.replicate T (0 : Int)) 0 D = D ++ List.replicate (T - D.length) 0 := by
  simp [splice]
theorem splice_list {D L : List Int} {a T : Nat} (hT : T = max D.length (a + L.length)) (hL : 1 ≤ L.length) : splice (D ++ List.replicate (T - D.length) (0 : Int)) a L = wrL D a L := by
  unfold splice wrL
  rw [if_neg (by rintro rfl; simp at hL), List.take_append, List.drop_append, List.take_replicate, List.drop_replicate, show min (a - D.length) (T - D.length) = a - D.length by omega, show T - D.length - (a + L.length - D.length) = 0 by omega]
  simp

set_option maxHeartbeats 2000000 in
theorem writtenAt_any {A A1 : Option Addr} {n c n1 c1 a : Nat} {D L1 : List Int} {w : World} {L L' B B' : Nat} (h : Ints w L B A n D) (h' : Ints w L' B' A1 n1 L1) (hB : B ≤ w.heap.size) (hB' : B' ≤ w.heap.size) (hn : n ≤ 1048576) (hn1 : n1 ≤ 1048576) (h1 : 1 ≤ n1) (ha : a ≤ 1048576) :
    Calls Try.prog 107 #[.slice A n c, .int .i64 (a : Int), .slice A1 n1 c1] w (ListPost (wrL D a L1) w) := by
  have HL := Lib.hid h.len
  have HL1 := Lib.hid h'.len
  have hok := Lib.hid h.ok
  have hok1 := Lib.hid h'.ok
  obtain ⟨T, hT⟩ : ∃ T : Nat, T = max n (a + n1) := ⟨_, rfl⟩
  have HT := Lib.hid hT
  have hw : IntKind.i64.wrap ((a : Int) + (n1 : Int)) = (a : Int) + (n1 : Int) := IntWalk.i64_in _ (by omega)
  have hif : (if (n : Int) < (a : Int) + (n1 : Int) then (a : Int) + (n1 : Int) else (n : Int)) = (T : Int) := by split <;> omega
  have haT : (a : Int) ≤ (T : Int) := by omega
  have ha0 : (0 : Int) ≤ (a : Int) := by omega
  have hTa : ¬ T = a := by omega
  have hT0 : T ≤ 4194304 := by omega
  clear hT
  have hmk := run_make_row' (P := Try.prog) 22 3 (.int .i64 0) 8 Try.underlying22 infoInt rfl .i64 .i64 T (by omega) (by omega)
  have H1 := Lib.hid (h.alloc hB (.cells (madeCells #[.int .i64 0] T) 3))
  have H2 := Lib.hid (h'.alloc hB' (.cells (madeCells #[.int .i64 0] T) 3))
  clear h h'
  go_enter Try.func107, Try.ntmps107
  go_wp2_with (with_reducible refine wpList_copy_splice (o := ⟨some _, _, _, _, _, _⟩) rfl _ _ 22 22 rfl 3 Try.underlying22 sizeInt _ _ _ _ _ _ rfl rfl w.heap.size 0 (madeCells #[.int .i64 0] T).toList 3 ?c1 (D.map (Value.int .i64)) ?c2 ?c3 ?c4 ?c5 w.heap.size w ?c6 (Nat.le_refl _) ?_)
  case c1 => simpa using Go.Deep.blk_alloc_new w (.cells (madeCells #[.int .i64 0] T) 3)
  case c2 => rw [List.length_map, ← HL.out]; show n = min n T; have := HT.out; omega
  case c3 => exact fun hp => H1.out.cellsOf (by have := HL.out; omega)
  case c4 => rw [List.length_map, made_rep, List.length_map, List.length_replicate, ← HL.out]; have := HT.out; omega
  case c5 => exact fun v hv => by obtain ⟨x, _, rfl⟩ := List.mem_map.1 hv; rfl
  case c6 => go_grown
  intro w1 hw1 hb1
  have HW1 : Hid (w1.heap[w.heap.size]? = some (.cells (((D ++ List.replicate (T - D.length) 0).map (Value.int .i64))).toArray 3 (0, 0))) := by
    have h := hw1.out
    rw [made_rep, splice_map, splice_data _ (by have := HL.out; have := HT.out; omega)] at h
    exact h
  have HB1 := Lib.hid hb1
  have s1 : w.heap.size < w1.heap.size := (Array.getElem?_eq_some_iff.1 HW1.out).1
  have I2 : Hid (Ints w1 L' B' A1 n1 L1) := by
    have hx : Below w.heap.size (w.alloc (.cells (madeCells #[.int .i64 0] T) 3)) w1 := ⟨hb1.os, hb1.tape, hb1.output, by simp; omega, fun k hk => by rw [hb1.block k hk, Below.heap_alloc w _ k hk]⟩
    exact H2.out.below hx hB'
  clear hw1 hb1 H1 H2 hmk
  go_wp2_with (with_reducible refine wpList_copy_splice (o := ⟨some _, _, _, _, _, _⟩) rfl _ _ 22 22 rfl 3 Try.underlying22 sizeInt _ _ _ _ _ _ rfl rfl w.heap.size a ((D ++ List.replicate (T - D.length) 0).map (Value.int .i64)) 3 HW1.out (L1.map (Value.int .i64)) ?c2 ?c3 ?c4 ?c5 w.heap.size w HB1.out (Nat.le_refl _) ?_)
  case c2 => rw [List.length_map, ← HL1.out]; show n1 = min n1 (T - a); have := HT.out; omega
  case c3 => exact fun hp => I2.out.cellsOf (by omega)
  case c4 => rw [List.length_map, List.length_map, List.length_append, List.length_replicate, ← HL.out, ← HL1.out]; have := HT.out; omega
  case c5 => exact fun v hv => by obtain ⟨x, _, rfl⟩ := List.mem_map.1 hv; rfl
  intro w2 hw2 hb2
  have hrow := hw2.out
  rw [show List.map (Value.int .i64) D ++ List.replicate (T - D.length) (Value.int .i64 0) = (D ++ List.replicate (T - D.length) 0).map (Value.int .i64) by simp, splice_map, splice_list (by rw [← HL.out, ← HL1.out]; exact HT.out) (by rw [← HL1.out]; exact h1)] at hrow
  have s2 : w.heap.size < w2.heap.size := (Array.getElem?_eq_some_iff.1 hrow).1
  have hlen : (wrL D a L1).length = T := by rw [wrL_len (by rw [← HL1.out]; exact h1), ← HL.out, ← HL1.out]; exact HT.out.symm
  have HR : Hid (Ints w2 w.heap.size w2.heap.size (some ⟨w.heap.size, 0, none⟩) (wrL D a L1).length (wrL D a L1)) := Ints.of_cells hrow (by omega) (wrL_ok hok.out hok1.out) (Nat.le_refl _) s2
  have HB2 := Lib.hid hb2
  rw [hlen] at HR
  clear hw2 hb2 hrow hlen
  go_wp2
  go_ret
  exact ⟨_, _, _, rfl, Nat.le_refl _, HB2.out, HR.out⟩

/-- What writeAs leaves: the number of calls is as before. -/
def WriteAsPost (more : List Value) (b lo : Nat) (A : Option Addr) (n : Nat) (A' : Option Addr) (n' c' : Nat) (p q : Int) (D : List Int) (k : Int) (L1 : List Int) (w : World) (e : Ending) (w' : World) : Prop :=
  ∃ A2 n2 c2, e = .returned (.tuple #[.int .i64 (wrM p k L1.length : Nat), .int .i64 (wrSt p k)]) ∧ n2 ≤ c2 ∧ Turn w.heap.size b w w' ∧ Ints w' lo w'.heap.size A2 n2 (wrL D p.toNat (L1.take (wrM p k L1.length))) ∧
    Box w' b (.slice A2 n2 c2 :: .int .i64 (p + (wrM p k L1.length : Nat)) :: .slice A' n' c' :: .int .i64 q :: more) ∧ ((A2 = A ∧ n2 = n) ∨ Ints w' w.heap.size w'.heap.size A2 n2 (wrL D p.toNat (L1.take (wrM p k L1.length))))
def WritePost (b lo : Nat) (A : Option Addr) (n : Nat) (A' : Option Addr) (n' c' : Nat) (p : Int) (a : Nat) (D : List Int) (k : Int) (L1 : List Int) (w : World) (e : Ending) (w' : World) : Prop :=
  WriteAsPost [] b lo A n A' n' c' p ((a : Int) + 1) D k L1 w e w'
theorem Ints.narrow {w w1 : World} {lo hi lo' hi' n : Nat} {A : Option Addr} {xs ys : List Int} (hi : Ints w1 lo hi A n xs) (h : Ints w lo' hi' A n ys) : Ints w1 lo' hi' A n xs :=
  ⟨hi.1, hi.2.1, hi.2.2.1, fun hn => by
    obtain ⟨b, o, e, _, _, hc⟩ := hi.2.2.2 hn
    obtain ⟨b', o', e', h1, h2, _⟩ := h.2.2.2 hn
    rw [e] at e'
    injection e' with e'
    injection e' with e1 e2 _
    subst e1
    exact ⟨b, o, e, h1, h2, hc⟩⟩
theorem wrL_none (D : List Int) (a : Nat) (L : List Int) : wrL D a (L.take 0) = D := by simp [wrL]

set_option maxHeartbeats 2000000 in
theorem writeAs_any {more : List Value} {A A' A1 : Option Addr} {n c n' c' n1 c1 a b : Nat} {D S L1 : List Int} {p q0 : Int} {w : World} {L B L' B' M C : Nat} (hX : Box w b (.slice A n c :: .int .i64 p :: .slice A' n' c' :: .int .i64 q0 :: more)) (h : Ints w L B A n D) (h' : Ints w L' B' A' n' S) (g : Ints w M C A1 n1 L1)
    (hb : b < L ∨ B ≤ b) (hb' : b < L' ∨ B' ≤ b) (hbg : b < M ∨ C ≤ b) (hB : B ≤ w.heap.size) (hB' : B' ≤ w.heap.size) (hC : C ≤ w.heap.size) (hnc : n ≤ c) (hv : validD D p S a = true) (hn1 : 1 ≤ n1) (hn2 : n1 ≤ 60) (hc1 : n1 ≤ c1) (hlo : L ≤ w.heap.size) :
    Calls Try.prog 106 #[.pointer (some ⟨b, 0, none⟩), .int .i64 (a : Int), .slice A1 n1 c1] w (WriteAsPost more b L A n A' n' c' p q0 D (mayAt S a) L1 w) := by
  obtain ⟨hbD, hS12, hSall, ⟨hp0, hp1⟩, _⟩ := validD_iff.1 hv
  have hD60 := Lib.hid (bytesB_le hbD)
  have HL := Lib.hid h.len
  have HG := Lib.hid g.len
  have hki := mayAt_in hSall a
  have hcall := mayHave_any (a := a) hX.first4 h'
  obtain ⟨k, hk⟩ : ∃ k, mayAt S a = k := ⟨_, rfl⟩
  rw [hk] at hki hcall ⊢
  clear hk hbD hS12 hSall hv
  have HC := Lib.hid hcall
  clear hcall
  have HX := Lib.hid hX
  clear hX
  have hbw := HX.out.lt
  obtain ⟨q, rfl⟩ := Int.eq_ofNat_of_zero_le hp0
  have none : ∀ (st : Int) (w' : World) (m : Nat), Hid (wrM q k L1.length = 0) → Hid (wrSt q k = st) → w' = w.drewN m → WriteAsPost more b L A n A' n' c' q q0 D k L1 w (.returned (.tuple #[.int .i64 0, .int .i64 st])) w' := by
    intro st w' m hm hs hw
    subst hw
    refine ⟨A, n, c, by rw [hm.out, hs.out]; rfl, hnc, (Turn.refl _ _ _).drewN _, ?_, ?_, Or.inl ⟨rfl, rfl⟩⟩
    · rw [hm.out, wrL_none]
      exact (h.drewN m).more (Nat.le_refl _) (by rw [size_drewN]; exact hB)
    · rw [hm.out]
      simpa using HX.out.drewN m
  have NONE := Lib.hid none
  clear none
  by_cases k1 : k < 1
  · have hst : callSt k = wrSt q k ∧ (callSt k != 0) = true := by
      rcases (by omega : k = -1 ∨ k = 0) with rfl | rfl <;> simp [callSt, wrSt]
    obtain ⟨hst, hne⟩ := hst
    rw [hst] at hne
    have HM : Hid (wrM q k L1.length = 0) := by show _ = _; simp [wrM, k1]
    obtain ⟨st, hs⟩ : ∃ st, wrSt q k = st := ⟨_, rfl⟩
    rw [hs] at hst hne
    have HS := Lib.hid hst
    have HS2 := Lib.hid hs
    clear hst hs
    go_enter Try.func106, Try.ntmps106
    go_wp2_with fail
    refine HC.out.mono ?_
    rintro e w1 ⟨rfl, m, rfl⟩
    rw [HS.out]
    go_wp2
    go_ret2
    exact NONE.out st _ m HM HS2 rfl
  · have HS : Hid (callSt k = 0) := by show _ = _; simp [callSt]; omega
    have HM : Hid (callMay k = k) := by show _ = _; simp [callMay]; omega
    by_cases hq : q = 60
    · subst hq
      have HM0 : Hid (wrM (60 : Nat) k L1.length = 0) := by show _ = _; simp [wrM]
      have HS4 : Hid (wrSt (60 : Nat) k = 4) := by
        show _ = _
        unfold wrSt
        rw [if_neg (show ¬ k < 0 by omega), if_neg (show ¬ k = 0 by omega)]
        rfl
      go_enter Try.func106, Try.ntmps106
      go_wp2_with fail
      refine HC.out.mono ?_
      rintro e w1 ⟨rfl, m, rfl⟩
      rw [HS.out, HM.out]
      have X1 := Lib.hid (HX.out.drewN m)
      have x0 := (X1.out.2 0 _ rfl).1; have x1 := (X1.out.2 1 _ rfl).1; have x2 := (X1.out.2 2 _ rfl).1; have x3 := (X1.out.2 3 _ rfl).1
      go_wp2
      go_ret2
      exact NONE.out 4 _ m HM0 HS4 rfl
    · have HS0 : Hid (wrSt q k = 0) := by
        show _ = _
        unfold wrSt
        rw [if_neg (show ¬ k < 0 by omega), if_neg (show ¬ k = 0 by omega), if_neg (show ¬ (60 : Int) ≤ (q : Int) by omega)]
      have hq1 : q < 60 := by omega
      have hq2 : ((q : Int) == 60) = false := by simp; omega
      obtain ⟨j, rfl⟩ := Int.eq_ofNat_of_zero_le (show 0 ≤ k by omega)
      obtain ⟨r, hr⟩ : ∃ r, r = 60 - q := ⟨_, rfl⟩
      have hwr : IntKind.i64.wrap (60 - (q : Int)) = (r : Int) := by rw [IntWalk.i64_in _ (by omega)]; omega
      have HMM : Hid (wrM q j L1.length = min (min n1 j) r) := by
        show _ = _
        unfold wrM
        rw [if_neg k1, ← HG.out, hr]
        rfl
      have hcase : ∃ T : Nat, min (min n1 j) r = T ∧ 1 ≤ T ∧ T ≤ n1 ∧ T ≤ r ∧ (((j : Int) < (n1 : Int) ∧ (j : Int) ≤ (r : Int) ∧ T = j) ∨ ((j : Int) < (n1 : Int) ∧ (r : Int) < (j : Int) ∧ T = r) ∨ ((n1 : Int) ≤ (j : Int) ∧ (n1 : Int) ≤ (r : Int) ∧ T = n1) ∨ ((n1 : Int) ≤ (j : Int) ∧ (r : Int) < (n1 : Int) ∧ T = r)) := by
        refine ⟨_, rfl, ?_⟩
        omega
      obtain ⟨T, hTe, hT1, hT2, hT3, hcase⟩ := hcase
      rw [hTe] at HMM
      clear hTe
      have hwq : IntKind.i64.wrap ((q : Int) + (T : Int)) = (q : Int) + (T : Int) := IntWalk.i64_in _ (by omega)
      have hT0 : (0 : Int) ≤ (T : Int) := by omega
      have hTc : (T : Int) ≤ (c1 : Int) := by omega
      have HLT : Hid ((L1.take T).length = T) := by show _ = _; rw [List.length_take, ← HG.out]; omega
      clear hr
      rcases hcase with ⟨d1, d2, hTe⟩ | ⟨d1, d2, hTe⟩ | ⟨d1, d2, hTe⟩ | ⟨d1, d2, hTe⟩
      all_goals
        subst hTe
        go_enter Try.func106, Try.ntmps106
        go_wp2_with fail
        refine HC.out.mono ?_
        rintro e w1 ⟨rfl, m, rfl⟩
        rw [HS.out, HM.out]
        have X1 : Hid (Box (w.drewN m) b (.slice A n c :: .int .i64 (q : Int) :: .slice A' n' c' :: .int .i64 q0 :: more)) := HX.out.drewN m
        have H1 := Lib.hid (h.drewN m)
        have G1 := Lib.hid ((g.drewN m).take hT2)
        have T1 : Hid (Turn w.heap.size b w (w.drewN m)) := (Turn.refl _ _ _).drewN _
        have s1 : (w.drewN m).heap.size = w.heap.size := size_drewN w m
        generalize w.drewN m = w1 at *
        have x0 := (X1.out.2 0 _ rfl).1; have x1 := (X1.out.2 1 _ rfl).1; have x2 := (X1.out.2 2 _ rfl).1; have x3 := (X1.out.2 3 _ rfl).1
        have f0 := (X1.out.2 0 _ rfl).2; have f1 := (X1.out.2 1 _ rfl).2; have f2 := (X1.out.2 2 _ rfl).2; have f3 := (X1.out.2 3 _ rfl).2
        go_wp2_with fail
        go_region_law ((go_simp; go_at_call 107; refine (writtenAt_any (a := q) (w := w1.drew) H1.out.drew G1.out.drew (by simp; omega) (by simp; omega) (by have := HL.out; have := hD60.out; omega) (by omega) hT1 (by omega)).mono ?_; rintro e w2 ⟨A2, n2, c2, rfl, hc2, hb2, hi2⟩; (try simp only [World.size_alloc, World.size_setCell, World.size_drew] at hb2 hi2); have HB2 := Lib.hid hb2; have HI2 := Lib.hid hi2; have hsz := hb2.size; (try simp only [World.size_alloc, World.size_setCell, World.size_drew] at hsz); clear hi2 hb2; have X2 := Lib.hid (X1.out.drew.below HB2.out (by omega)); clear x0 x1 x2 x3; clear f0 f1 f2 f3; have x0 := (X2.out.2 0 _ rfl).1; have x1 := (X2.out.2 1 _ rfl).1; have x2 := (X2.out.2 2 _ rfl).1; have x3 := (X2.out.2 3 _ rfl).1; have f0 := (X2.out.2 0 _ rfl).2; have f1 := (X2.out.2 1 _ rfl).2; have f2 := (X2.out.2 2 _ rfl).2; have f3 := (X2.out.2 3 _ rfl).2))
        all_goals
          go_wp2
          go_ret2
          have HN : Hid (Ints ((w2.setCell ⟨b, 0, none⟩ (.slice A2 n2 c2)).setCell ⟨b, 1, none⟩ (.int .i64 ((q : Int) + (T : Int)))) w1.heap.size w2.heap.size A2 n2 (wrL D q (L1.take T))) := by
            show Ints _ _ _ _ _ _
            (repeat (with_reducible refine Ints.set_ ?_ (by omega) _))
            exact HI2.out
          refine ⟨A2, n2, c2, ?_, hc2, ?_, ?_, ?_, ?_⟩
          · rw [HMM.out, HS0.out]; rfl
          · exact (((T1.out.drew.step HB2.out (by omega)).put _).put _)
          · rw [HMM.out]
            simp only [World.size_setCell]
            exact HN.out.more (by omega) (by omega)
          · rw [HMM.out]
            have hx := (X2.out.put (i := 0) (by simp) (.slice A2 n2 c2)).put (i := 1) (by simp) (.int .i64 ((q : Int) + (T : Int)))
            simpa using hx
          · rw [HMM.out]
            simp only [World.size_setCell]
            exact Or.inr (HN.out.more (by omega) (by omega))
set_option maxHeartbeats 2000000 in
theorem write_any {A A' A1 : Option Addr} {n c n' c' n1 c1 a b : Nat} {D S L1 : List Int} {p : Int} {w : World} {L B L' B' M C : Nat} (hX : Box w b [.slice (A) n c, .int .i64 (p), .slice (A') n' c', .int .i64 ((a : Int))]) (h : Ints w L B A n D) (h' : Ints w L' B' A' n' S) (g : Ints w M C A1 n1 L1)
    (hb : b < L ∨ B ≤ b) (hb' : b < L' ∨ B' ≤ b) (hbg : b < M ∨ C ≤ b) (hB : B ≤ w.heap.size) (hB' : B' ≤ w.heap.size) (hC : C ≤ w.heap.size) (hnc : n ≤ c) (hv : validD D p S a = true) (ha : a < 1000) (hn1 : 1 ≤ n1) (hn2 : n1 ≤ 60) (hc1 : n1 ≤ c1) (hlo : L ≤ w.heap.size) :
    Calls Try.prog 104 #[.pointer (some ⟨b, 0, none⟩), .slice A1 n1 c1] w (WritePost b L A n A' n' c' p a D (mayAt S a) L1 w) := by
  have hcall := writeAs_any (more := []) hX h h' g hb hb' hbg hB hB' hC hnc hv hn1 hn2 hc1 hlo
  have HC := Lib.hid hcall
  have hbw := hX.lt
  have HX := Lib.hid hX
  have HH := Lib.hid h
  clear hcall hX h h' g hv
  have z0 := (HX.out.2 0 _ rfl).1; have z1 := (HX.out.2 1 _ rfl).1; have z2 := (HX.out.2 2 _ rfl).1; have z3 := (HX.out.2 3 _ rfl).1
  go_enter Try.func104, Try.ntmps104
  go_wp2_with fail
  refine HC.out.mono ?_
  rintro e w1 ⟨A2, n2, c2, rfl, hc2, ht, hi, hx, hor⟩
  have s1 := ht.size
  have X1 := Lib.hid hx
  have HI := Lib.hid hi
  have HO := Lib.hid hor
  have HT := Lib.hid ht
  clear hi hor ht hx HC
  clear z0 z1 z2 z3
  have z0 := (X1.out.2 0 _ rfl).1; have z1 := (X1.out.2 1 _ rfl).1; have z2 := (X1.out.2 2 _ rfl).1; have z3 := (X1.out.2 3 _ rfl).1
  have f0 := (X1.out.2 0 _ rfl).2; have f1 := (X1.out.2 1 _ rfl).2; have f2 := (X1.out.2 2 _ rfl).2; have f3 := (X1.out.2 3 _ rfl).2
  go_wp2
  go_ret2
  refine ⟨A2, n2, c2, rfl, hc2, HT.out.put _, ?_, ?_, ?_⟩
  · simp only [World.size_setCell]
    rcases HO.out with ⟨rfl, rfl⟩ | h2
    · exact ((HI.out.narrow HH.out).set_ hb _).more (Nat.le_refl _) (by omega)
    · exact (h2.set_ (Or.inl hbw) _).more hlo (Nat.le_refl _)
  · have hx := X1.out.put (i := 3) (by simp) (.int .i64 ((a : Int) + 1))
    simpa using hx
  · simp only [World.size_setCell]
    rcases HO.out with h1 | h2
    · exact .inl h1
    · exact .inr (h2.set_ (Or.inl hbw) _)
end Go.Proofs.Ytjilbjkmnmbfeaa
