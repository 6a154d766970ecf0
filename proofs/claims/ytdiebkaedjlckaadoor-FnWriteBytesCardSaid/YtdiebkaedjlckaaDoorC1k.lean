/- Contracts of writtenAt, of a device's 'write' and of WriteDevice, the program's. -/
import Derived.Test.YtdiebkaedjlckaaDoorC1f
import Derived.Test.YtdiebkaedjlckaaDoorS1b
import Derived.IntWalk
import Derived.StillTailTactics
namespace Go.Proofs.YtdiebkaedjlckaaDoor
open Go.ChangeShapes Go.WideShapes Go.ChangeAt Go.RowKit
set_option linter.unusedSimpArgs false
set_option linter.unusedVariables false

/-- How many bytes of m a call writes, how it ends, and the bytes behind it. -/
def wrM (p k : Int) (m : Nat) : Nat := if k < 1 then 0 else min (min m k.toNat) (60 - p.toNat)
def wrSt (p k : Int) : Int := if k < 0 then 3 else if k = 0 then 2 else if 60 ≤ p then 4 else 0
def wrL (D : List Int) (a : Nat) (L : List Int) : List Int := if L = [] then D else D.take a ++ (List.replicate (a - D.length) 0 ++ (L ++ D.drop (a + L.length)))
theorem wrL_len {D L : List Int} {a : Nat} (h : 1 ≤ L.length) : (wrL D a L).length = max D.length (a + L.length) := by
  unfold wrL
  rw [if_neg (by rintro rfl; simp at h)]
  simp
  omega
theorem wrL_ok {D L : List Int} {a : Nat} (h : ∀ x ∈ D, okInt x) (h' : ∀ x ∈ L, okInt x) : ∀ x ∈ wrL D a L, okInt x := by
  intro x hx
  unfold wrL at hx
  split at hx
  · exact h x hx
  · rcases List.mem_append.1 hx with h1 | h1
    · exact h x (List.mem_of_mem_take h1)
    · rcases List.mem_append.1 h1 with h1 | h1
      · rw [List.eq_of_mem_replicate h1]; unfold okInt; omega
      · rcases List.mem_append.1 h1 with h1 | h1
        · exact h' x h1
        · exact h x (List.mem_of_mem_drop h1)
theorem made_rep (m : Nat) : (madeCells #[Value.int .i64 0] m).toList = (List.replicate m (0 : Int)).map (Value.int .i64) := by
  rw [List.map_replicate]
  apply List.ext_getElem?
  intro i
  rw [Array.getElem?_toList, List.getElem?_replicate]
  by_cases hi : i < m
  · simp [madeCells, hi, Nat.mod_one]
  · rw [if_neg hi, Array.getElem?_eq_none (by rw [size_madeCells]; omega)]
theorem splice_map (f : Int → Value) (xs cs : List Int) (o : Nat) : splice (xs.map f) o (cs.map f) = (splice xs o cs).map f := by
  simp [splice]
theorem splice_data (D : List Int) {T : Nat} (h : D.length ≤ T) : splice (List.replicate T (0 : Int)) 0 D = D ++ List.replicate (T - D.length) 0 := by
  simp [splice]
theorem splice_list {D L : List Int} {a T : Nat} (hT : T = max D.length (a + L.length)) (hL : 1 ≤ L.length) : splice (D ++ List.replicate (T - D.length) (0 : Int)) a L = wrL D a L := by
  unfold splice wrL
  rw [if_neg (by rintro rfl; simp at hL), List.take_append, List.drop_append, List.take_replicate, List.drop_replicate, show min (a - D.length) (T - D.length) = a - D.length by omega, show T - D.length - (a + L.length - D.length) = 0 by omega]
  simp

/-- How many of m bytes there is room for at the place a. -/
def waM (a m : Nat) : Nat := min m (60 - a)
theorem wrL_none (D : List Int) (a : Nat) (L : List Int) : wrL D a (L.take 0) = D := by simp [wrL]
/-- What writtenAt gives. -/
def WrAtPost (D : List Int) (a : Nat) (L : List Int) (w : World) (e : Ending) (w' : World) : Prop :=
  ∃ A n c, e = .returned (.tuple #[.slice A n c, .int .i64 (waM a L.length : Nat)]) ∧ n ≤ c ∧ Below w.heap.size w w' ∧ Ints w' w.heap.size w'.heap.size A n (wrL D a (L.take (waM a L.length)))
set_option maxRecDepth 10000 in
set_option maxHeartbeats 2000000 in
theorem writtenAt_any {A A1 : Option Addr} {n c n1 c1 a : Nat} {D L1 : List Int} {w : World} {L L' B B' : Nat} (h : Ints w L B A n D) (h' : Ints w L' B' A1 n1 L1) (hB : B ≤ w.heap.size) (hB' : B' ≤ w.heap.size) (hn : n ≤ 1048576) (hn1 : n1 ≤ 1048576) (hc1 : n1 ≤ c1) (ha : a ≤ 60) :
    Calls Tryd.prog 83 #[.slice A n c, .int .i64 (a : Int), .slice A1 n1 c1] w (WrAtPost D a L1 w) := by
  have HL := Lib.hid h.len
  have HL1 := Lib.hid h'.len
  have hok := Lib.hid h.ok
  obtain ⟨r, hr⟩ : ∃ r : Nat, r = 60 - a := ⟨_, rfl⟩
  have hwr : IntKind.i64.wrap (60 - (a : Int)) = (r : Int) := by rw [IntWalk.i64_in _ (by omega)]; omega
  have HM0 : Hid (waM a L1.length = min n1 r) := by show _ = _; rw [hr, waM, ← HL1.out]
  have hr60 : r ≤ 60 := by omega
  clear hr
  by_cases h0 : n1 = 0 ∨ r = 0
  · have HM : Hid (waM a L1.length = 0) := by show _ = _; rw [HM0.out]; omega
    clear HM0 h'
    by_cases hlt : (r : Int) < (n1 : Int)
    · obtain rfl : r = 0 := by omega
      have hltN : 0 < n1 := by omega
      have hltI : (0 : Int) < (n1 : Int) := by omega
      clear h0
      go_enter Tryd.func83, Tryd.ntmps83
      go_wp2_with fail
      refine (copyList_any h hB hn).mono ?_
      rintro e w2 ⟨A2, n2, c2, rfl, hc2, hb2, hi2⟩
      have HB2 := Lib.hid hb2
      have HI2 := Lib.hid hi2
      clear hb2 hi2 h
      go_wp2
      go_ret2
      refine ⟨A2, n2, c2, by rw [HM.out]; rfl, hc2, HB2.out, ?_⟩
      rw [HM.out, wrL_none]
      exact HI2.out
    · obtain rfl : n1 = 0 := by omega
      have hlt2 : ¬ (r : Int) < 0 := by omega
      have hgeI : (0 : Int) ≤ (r : Int) := by omega
      have hmin : (if (r : Int) < 0 then (r : Int) else 0) = 0 := if_neg (by omega)
      have hnN : ¬ r < 0 := by omega
      clear h0
      go_enter Tryd.func83, Tryd.ntmps83
      go_wp2_with fail
      refine (copyList_any h hB hn).mono ?_
      rintro e w2 ⟨A2, n2, c2, rfl, hc2, hb2, hi2⟩
      have HB2 := Lib.hid hb2
      have HI2 := Lib.hid hi2
      clear hb2 hi2 h
      go_wp2
      go_ret2
      refine ⟨A2, n2, c2, by rw [HM.out]; rfl, hc2, HB2.out, ?_⟩
      rw [HM.out, wrL_none]
      exact HI2.out
  · have hcase : ∃ m : Nat, min n1 r = m ∧ 1 ≤ m ∧ m ≤ n1 ∧ m ≤ r ∧ (((r : Int) < (n1 : Int) ∧ r = m) ∨ ((n1 : Int) ≤ (r : Int) ∧ n1 = m)) := by
      refine ⟨_, rfl, ?_⟩
      omega
    obtain ⟨m, hm, hm1, hmn, hmr, hcase⟩ := hcase
    rw [hm] at HM0
    have g := h'.take hmn
    have HLm := Lib.hid g.len
    have hokm := Lib.hid g.ok
    obtain ⟨T, hT⟩ : ∃ T : Nat, T = max n (a + m) := ⟨_, rfl⟩
    have HT := Lib.hid hT
    have hw : IntKind.i64.wrap ((a : Int) + (m : Int)) = (a : Int) + (m : Int) := IntWalk.i64_in _ (by omega)
    have hif : (if (n : Int) < (a : Int) + (m : Int) then (a : Int) + (m : Int) else (n : Int)) = (T : Int) := by split <;> omega
    have haT : (a : Int) ≤ (T : Int) := by omega
    have ha0 : (0 : Int) ≤ (a : Int) := by omega
    have hTa : ¬ T = a := by omega
    have hT0 : T ≤ 4194304 := by omega
    have hm0 : (0 : Int) ≤ (m : Int) := by omega
    have hmc : (m : Int) ≤ (c1 : Int) := by omega
    have hmz : ((m : Int) == 0) = false := by simp; omega
    clear hT h' h0 hm
    have hmk := run_make_row' (P := Tryd.prog) 22 3 (.int .i64 0) 8 Tryd.underlying22 infoInt rfl .i64 .i64 T (by omega) (by omega)
    have H1 := Lib.hid (h.alloc hB (.cells (madeCells #[.int .i64 0] T) 3))
    have H2 := Lib.hid (g.alloc hB' (.cells (madeCells #[.int .i64 0] T) 3))
    obtain ⟨Lm, hLm⟩ : ∃ Lm, L1.take m = Lm := ⟨_, rfl⟩
    have HGO : Hid (wrL D a (L1.take m) = wrL D a Lm) := by show _ = _; rw [hLm]
    rw [hLm] at HLm hokm H2
    clear h g hLm
    rcases hcase with ⟨hlt, hrm⟩ | ⟨hge, hnm⟩
    · subst hrm
      have hltN : r < n1 := by omega
      go_enter Tryd.func83, Tryd.ntmps83
      go_wp2_with (with_reducible refine wpList_copy_splice (o := ⟨some _, _, _, _, _, _⟩) rfl _ _ 22 22 rfl 3 Tryd.underlying22 sizeInt _ _ _ _ _ _ rfl rfl w.heap.size 0 (madeCells #[.int .i64 0] T).toList 3 ?c1 (D.map (Value.int .i64)) ?c2 ?c3 ?c4 ?c5 w.heap.size w ?c6 (Nat.le_refl _) ?_)
      case c1 => simpa using Go.Deep.blk_alloc_new w (.cells (madeCells #[.int .i64 0] T) 3)
      case c2 => rw [List.length_map, ← HL.out]; show n = min n T; have := HT.out; omega
      case c3 => exact fun hp => H1.out.cellsOf (by have := HL.out; omega)
      case c4 => rw [List.length_map, made_rep, List.length_map, List.length_replicate, ← HL.out]; have := HT.out; omega
      case c5 => exact fun v hv => by obtain ⟨x, _, rfl⟩ := List.mem_map.1 hv; rfl
      case c6 => go_grown
      intro w1 hw1 hb1
      have HW1 : Hid (w1.heap[w.heap.size]? = some (.cells (((D ++ List.replicate (T - D.length) 0).map (Value.int .i64))).toArray 3 (0, 0))) := by
        have h := hw1.out
        rw [made_rep, splice_map, splice_data _ (by have := HL.out; have := HT.out; omega)] at h
        exact h
      have HB1 := Lib.hid hb1
      have s1 : w.heap.size < w1.heap.size := (Array.getElem?_eq_some_iff.1 HW1.out).1
      have I2 : Hid (Ints w1 L' B' A1 r Lm) := by
        have hx : Below w.heap.size (w.alloc (.cells (madeCells #[.int .i64 0] T) 3)) w1 := ⟨hb1.os, hb1.tape, hb1.output, by simp; omega, fun k hk => by rw [hb1.block k hk, Below.heap_alloc w _ k hk]⟩
        exact H2.out.below hx hB'
      clear hw1 hb1 H1 H2 hmk
      go_wp2_with fail
      go_still_tail 6, (by kernel_rfl)
      change wpList _ _ _ _ _ w1.drew
      replace HW1 : Hid (w1.drew.heap[w.heap.size]? = some (.cells (((D ++ List.replicate (T - D.length) 0).map (Value.int .i64))).toArray 3 (0, 0))) := HW1.out
      replace HB1 : Hid (Below w.heap.size w w1.drew) := HB1.out.drew
      replace I2 := Lib.hid I2.out.drew
      replace s1 : w.heap.size < w1.drew.heap.size := s1
      generalize w1.drew = w1 at *
      go_wp2_with (with_reducible refine wpList_copy_splice (o := ⟨some _, _, _, _, _, _⟩) rfl _ _ 22 22 rfl 3 Tryd.underlying22 sizeInt _ _ _ _ _ _ rfl rfl w.heap.size a ((D ++ List.replicate (T - D.length) 0).map (Value.int .i64)) 3 HW1.out (Lm.map (Value.int .i64)) ?c2 ?c3 ?c4 ?c5 w.heap.size w HB1.out (Nat.le_refl _) ?_)
      case c2 => rw [List.length_map, ← HLm.out]; show r = min r (T - a); have := HT.out; omega
      case c3 => exact fun hp => I2.out.cellsOf (by omega)
      case c4 => rw [List.length_map, List.length_map, List.length_append, List.length_replicate, ← HL.out, ← HLm.out]; have := HT.out; omega
      case c5 => exact fun v hv => by obtain ⟨x, _, rfl⟩ := List.mem_map.1 hv; rfl
      intro w2 hw2 hb2
      have hrow := hw2.out
      rw [show List.map (Value.int .i64) D ++ List.replicate (T - D.length) (Value.int .i64 0) = (D ++ List.replicate (T - D.length) 0).map (Value.int .i64) by simp, splice_map, splice_list (by rw [← HL.out, ← HLm.out]; exact HT.out) (by rw [← HLm.out]; exact hm1)] at hrow
      have s2 : w.heap.size < w2.heap.size := (Array.getElem?_eq_some_iff.1 hrow).1
      have hlen : (wrL D a Lm).length = T := by rw [wrL_len (by rw [← HLm.out]; exact hm1), ← HL.out, ← HLm.out]; exact HT.out.symm
      have HRW : Hid (Ints w2 w.heap.size w2.heap.size (some ⟨w.heap.size, 0, none⟩) (wrL D a Lm).length (wrL D a Lm)) := Ints.of_cells hrow (by omega) (wrL_ok hok.out hokm.out) (Nat.le_refl _) s2
      have HB2 := Lib.hid hb2
      rw [hlen] at HRW
      clear hw2 hb2 hrow hlen
      go_wp2
      go_ret2
      refine ⟨_, _, _, by rw [HM0.out]; rfl, Nat.le_refl _, HB2.out, ?_⟩
      rw [HM0.out, HGO.out]
      exact HRW.out
    · subst hnm
      have hgeN : n1 ≤ r := by omega
      have hnN : ¬ r < n1 := by omega
      have hmin : (if (r : Int) < (n1 : Int) then (r : Int) else (n1 : Int)) = (n1 : Int) := if_neg (by omega)
      go_enter Tryd.func83, Tryd.ntmps83
      go_wp2_with (with_reducible refine wpList_copy_splice (o := ⟨some _, _, _, _, _, _⟩) rfl _ _ 22 22 rfl 3 Tryd.underlying22 sizeInt _ _ _ _ _ _ rfl rfl w.heap.size 0 (madeCells #[.int .i64 0] T).toList 3 ?c1 (D.map (Value.int .i64)) ?c2 ?c3 ?c4 ?c5 w.heap.size w ?c6 (Nat.le_refl _) ?_)
      case c1 => simpa using Go.Deep.blk_alloc_new w (.cells (madeCells #[.int .i64 0] T) 3)
      case c2 => rw [List.length_map, ← HL.out]; show n = min n T; have := HT.out; omega
      case c3 => exact fun hp => H1.out.cellsOf (by have := HL.out; omega)
      case c4 => rw [List.length_map, made_rep, List.length_map, List.length_replicate, ← HL.out]; have := HT.out; omega
      case c5 => exact fun v hv => by obtain ⟨x, _, rfl⟩ := List.mem_map.1 hv; rfl
      case c6 => go_grown
      intro w1 hw1 hb1
      have HW1 : Hid (w1.heap[w.heap.size]? = some (.cells (((D ++ List.replicate (T - D.length) 0).map (Value.int .i64))).toArray 3 (0, 0))) := by
        have h := hw1.out
        rw [made_rep, splice_map, splice_data _ (by have := HL.out; have := HT.out; omega)] at h
        exact h
      have HB1 := Lib.hid hb1
      have s1 : w.heap.size < w1.heap.size := (Array.getElem?_eq_some_iff.1 HW1.out).1
      have I2 : Hid (Ints w1 L' B' A1 n1 Lm) := by
        have hx : Below w.heap.size (w.alloc (.cells (madeCells #[.int .i64 0] T) 3)) w1 := ⟨hb1.os, hb1.tape, hb1.output, by simp; omega, fun k hk => by rw [hb1.block k hk, Below.heap_alloc w _ k hk]⟩
        exact H2.out.below hx hB'
      clear hw1 hb1 H1 H2 hmk
      go_wp2_with fail
      go_still_tail 6, (by kernel_rfl)
      change wpList _ _ _ _ _ w1.drew
      replace HW1 : Hid (w1.drew.heap[w.heap.size]? = some (.cells (((D ++ List.replicate (T - D.length) 0).map (Value.int .i64))).toArray 3 (0, 0))) := HW1.out
      replace HB1 : Hid (Below w.heap.size w w1.drew) := HB1.out.drew
      replace I2 := Lib.hid I2.out.drew
      replace s1 : w.heap.size < w1.drew.heap.size := s1
      generalize w1.drew = w1 at *
      go_wp2_with (with_reducible refine wpList_copy_splice (o := ⟨some _, _, _, _, _, _⟩) rfl _ _ 22 22 rfl 3 Tryd.underlying22 sizeInt _ _ _ _ _ _ rfl rfl w.heap.size a ((D ++ List.replicate (T - D.length) 0).map (Value.int .i64)) 3 HW1.out (Lm.map (Value.int .i64)) ?c2 ?c3 ?c4 ?c5 w.heap.size w HB1.out (Nat.le_refl _) ?_)
      case c2 => rw [List.length_map, ← HLm.out]; show n1 = min n1 (T - a); have := HT.out; omega
      case c3 => exact fun hp => I2.out.cellsOf (by omega)
      case c4 => rw [List.length_map, List.length_map, List.length_append, List.length_replicate, ← HL.out, ← HLm.out]; have := HT.out; omega
      case c5 => exact fun v hv => by obtain ⟨x, _, rfl⟩ := List.mem_map.1 hv; rfl
      intro w2 hw2 hb2
      have hrow := hw2.out
      rw [show List.map (Value.int .i64) D ++ List.replicate (T - D.length) (Value.int .i64 0) = (D ++ List.replicate (T - D.length) 0).map (Value.int .i64) by simp, splice_map, splice_list (by rw [← HL.out, ← HLm.out]; exact HT.out) (by rw [← HLm.out]; exact hm1)] at hrow
      have s2 : w.heap.size < w2.heap.size := (Array.getElem?_eq_some_iff.1 hrow).1
      have hlen : (wrL D a Lm).length = T := by rw [wrL_len (by rw [← HLm.out]; exact hm1), ← HL.out, ← HLm.out]; exact HT.out.symm
      have HRW : Hid (Ints w2 w.heap.size w2.heap.size (some ⟨w.heap.size, 0, none⟩) (wrL D a Lm).length (wrL D a Lm)) := Ints.of_cells hrow (by omega) (wrL_ok hok.out hokm.out) (Nat.le_refl _) s2
      have HB2 := Lib.hid hb2
      rw [hlen] at HRW
      clear hw2 hb2 hrow hlen
      go_wp2
      go_ret2
      refine ⟨_, _, _, by rw [HM0.out]; rfl, Nat.le_refl _, HB2.out, ?_⟩
      rw [HM0.out, HGO.out]
      exact HRW.out

/-- What writeAs leaves: the number of calls is as before. -/
def WriteAsPost (more : List Value) (b lo : Nat) (A : Option Addr) (n : Nat) (A' : Option Addr) (n' c' : Nat) (p q : Int) (D : List Int) (k : Int) (L1 : List Int) (w : World) (e : Ending) (w' : World) : Prop :=
  ∃ A2 n2 c2, e = .returned (.tuple #[.int .i64 (wrM p k L1.length : Nat), .int .i64 (wrSt p k)]) ∧ n2 ≤ c2 ∧ Turn w.heap.size b w w' ∧ Ints w' lo w'.heap.size A2 n2 (wrL D p.toNat (L1.take (wrM p k L1.length))) ∧
    Box w' b (.slice A2 n2 c2 :: .int .i64 (p + (wrM p k L1.length : Nat)) :: .slice A' n' c' :: .int .i64 q :: more) ∧ ((A2 = A ∧ n2 = n) ∨ Ints w' w.heap.size w'.heap.size A2 n2 (wrL D p.toNat (L1.take (wrM p k L1.length))))
def WritePost (b lo : Nat) (A : Option Addr) (n : Nat) (A' : Option Addr) (n' c' : Nat) (p : Int) (a : Nat) (D : List Int) (k : Int) (L1 : List Int) (w : World) (e : Ending) (w' : World) : Prop :=
  WriteAsPost [] b lo A n A' n' c' p ((a : Int) + 1) D k L1 w e w'
theorem Ints.narrow {w w1 : World} {lo hi lo' hi' n : Nat} {A : Option Addr} {xs ys : List Int} (hi : Ints w1 lo hi A n xs) (h : Ints w lo' hi' A n ys) : Ints w1 lo' hi' A n xs :=
  ⟨hi.1, hi.2.1, hi.2.2.1, fun hn => by
    obtain ⟨b, o, e, _, _, hc⟩ := hi.2.2.2 hn
    obtain ⟨b', o', e', h1, h2, _⟩ := h.2.2.2 hn
    rw [e] at e'
    injection e' with e'
    injection e' with e1 e2 _
    subst e1
    exact ⟨b, o, e, h1, h2, hc⟩⟩

set_option maxHeartbeats 2000000 in
theorem writeAs_any {more : List Value} {A A' A1 : Option Addr} {n c n' c' n1 c1 a b : Nat} {D S L1 : List Int} {p q0 : Int} {w : World} {L B L' B' M C : Nat} (hX : Box w b (.slice A n c :: .int .i64 p :: .slice A' n' c' :: .int .i64 q0 :: more)) (h : Ints w L B A n D) (h' : Ints w L' B' A' n' S) (g : Ints w M C A1 n1 L1)
    (hb : b < L ∨ B ≤ b) (hb' : b < L' ∨ B' ≤ b) (hbg : b < M ∨ C ≤ b) (hB : B ≤ w.heap.size) (hB' : B' ≤ w.heap.size) (hC : C ≤ w.heap.size) (hnc : n ≤ c) (hv : validD D p S a = true) (hn1 : 1 ≤ n1) (hn2 : n1 ≤ 60) (hc1 : n1 ≤ c1) (hlo : L ≤ w.heap.size) :
    Calls Tryd.prog 125 #[.pointer (some ⟨b, 0, none⟩), .int .i64 (a : Int), .slice A1 n1 c1] w (WriteAsPost more b L A n A' n' c' p q0 D (mayAt S a) L1 w) := by
  obtain ⟨hbD, hS12, hSall, ⟨hp0, hp1⟩, _⟩ := validD_iff.1 hv
  have hD60 := Lib.hid (bytesB_le hbD)
  have HL := Lib.hid h.len
  have HG := Lib.hid g.len
  have hki := mayAt_in hSall a
  have hcall := mayHave_any (a := a) hX.first4 h'
  obtain ⟨k, hk⟩ : ∃ k, mayAt S a = k := ⟨_, rfl⟩
  rw [hk] at hki hcall ⊢
  clear hk hbD hS12 hSall hv
  have HC := Lib.hid hcall
  clear hcall
  have HX := Lib.hid hX
  clear hX
  have hbw := HX.out.lt
  obtain ⟨q, rfl⟩ := Int.eq_ofNat_of_zero_le hp0
  have none : ∀ (st : Int) (w' : World) (m : Nat), Hid (wrM q k L1.length = 0) → Hid (wrSt q k = st) → w' = w.drewN m → WriteAsPost more b L A n A' n' c' q q0 D k L1 w (.returned (.tuple #[.int .i64 0, .int .i64 st])) w' := by
    intro st w' m hm hs hw
    subst hw
    refine ⟨A, n, c, by rw [hm.out, hs.out]; rfl, hnc, (Turn.refl _ _ _).drewN _, ?_, ?_, Or.inl ⟨rfl, rfl⟩⟩
    · rw [hm.out, wrL_none]
      exact (h.drewN m).more (Nat.le_refl _) (by rw [size_drewN]; exact hB)
    · rw [hm.out]
      simpa using HX.out.drewN m
  have NONE := Lib.hid none
  clear none
  by_cases k1 : k < 1
  · have hst : callSt k = wrSt q k ∧ (callSt k != 0) = true := by
      rcases (by omega : k = -1 ∨ k = 0) with rfl | rfl <;> simp [callSt, wrSt]
    obtain ⟨hst, hne⟩ := hst
    rw [hst] at hne
    have HM : Hid (wrM q k L1.length = 0) := by show _ = _; simp [wrM, k1]
    obtain ⟨st, hs⟩ : ∃ st, wrSt q k = st := ⟨_, rfl⟩
    rw [hs] at hst hne
    have HS := Lib.hid hst
    have HS2 := Lib.hid hs
    clear hst hs
    go_enter Tryd.func125, Tryd.ntmps125
    go_wp2_with fail
    refine HC.out.mono ?_
    rintro e w1 ⟨rfl, m, rfl⟩
    rw [HS.out]
    go_wp2
    go_ret2
    exact NONE.out st _ m HM HS2 rfl
  · have HS : Hid (callSt k = 0) := by show _ = _; simp [callSt]; omega
    have HM : Hid (callMay k = k) := by show _ = _; simp [callMay]; omega
    by_cases hq : q = 60
    · subst hq
      have HM0 : Hid (wrM (60 : Nat) k L1.length = 0) := by show _ = _; simp [wrM]
      have HS4 : Hid (wrSt (60 : Nat) k = 4) := by
        show _ = _
        unfold wrSt
        rw [if_neg (show ¬ k < 0 by omega), if_neg (show ¬ k = 0 by omega)]
        rfl
      go_enter Tryd.func125, Tryd.ntmps125
      go_wp2_with fail
      refine HC.out.mono ?_
      rintro e w1 ⟨rfl, m, rfl⟩
      rw [HS.out, HM.out]
      have X1 := Lib.hid (HX.out.drewN m)
      have x0 := (X1.out.2 0 _ rfl).1; have x1 := (X1.out.2 1 _ rfl).1; have x2 := (X1.out.2 2 _ rfl).1; have x3 := (X1.out.2 3 _ rfl).1
      go_wp2
      go_ret2
      exact NONE.out 4 _ m HM0 HS4 rfl
    · have HS0 : Hid (wrSt q k = 0) := by
        show _ = _
        unfold wrSt
        rw [if_neg (show ¬ k < 0 by omega), if_neg (show ¬ k = 0 by omega), if_neg (show ¬ (60 : Int) ≤ (q : Int) by omega)]
      have hq1 : q < 60 := by omega
      have hq2 : ((q : Int) == 60) = false := by simp; omega
      obtain ⟨j, rfl⟩ := Int.eq_ofNat_of_zero_le (show 0 ≤ k by omega)
      have hcase : ∃ T : Nat, min n1 j = T ∧ T ≤ n1 ∧ (((j : Int) < (n1 : Int) ∧ T = j) ∨ ((n1 : Int) ≤ (j : Int) ∧ T = n1)) := by
        refine ⟨_, rfl, ?_⟩
        omega
      obtain ⟨T, hTe, hT2, hcase⟩ := hcase
      have HLT : Hid ((L1.take T).length = T) := by show _ = _; rw [List.length_take, ← HG.out]; omega
      obtain ⟨m0, hm0⟩ : ∃ m0, waM q (L1.take T).length = m0 := ⟨_, rfl⟩
      have hm1 : m0 ≤ T ∧ m0 ≤ 60 := by rw [← hm0, HLT.out]; unfold waM; omega
      have HMM : Hid (wrM q j L1.length = m0) := by
        show _ = _
        unfold wrM
        rw [if_neg k1, ← HG.out, ← hm0, HLT.out, ← hTe]
        unfold waM
        simp
      have HLL : Hid ((L1.take T).take m0 = L1.take m0) := by
        show _ = _
        rw [List.take_take, show min m0 T = m0 by omega]
      have HM0 := Lib.hid hm0
      clear hTe hm0
      have hwq : IntKind.i64.wrap ((q : Int) + (m0 : Int)) = (q : Int) + (m0 : Int) := IntWalk.i64_in _ (by omega)
      have hT0 : (0 : Int) ≤ (T : Int) := by omega
      have hTc : (T : Int) ≤ (c1 : Int) := by omega
      rcases hcase with ⟨d1, hTe⟩ | ⟨d1, hTe⟩
      all_goals
        subst hTe
        first | (have d2 : T < n1 := (by omega)) | (have d2 : ¬ j < T := (by omega); have d3 : (if j < T then (j : Int) else (T : Int)) = (T : Int) := if_neg d2)
        go_enter Tryd.func125, Tryd.ntmps125
        go_wp2_with fail
        refine HC.out.mono ?_
        rintro e w1 ⟨rfl, m, rfl⟩
        rw [HS.out, HM.out]
        have X1 : Hid (Box (w.drewN m) b (.slice A n c :: .int .i64 (q : Int) :: .slice A' n' c' :: .int .i64 q0 :: more)) := HX.out.drewN m
        have H1 := Lib.hid (h.drewN m)
        have G1 := Lib.hid ((g.drewN m).take hT2)
        have T1 : Hid (Turn w.heap.size b w (w.drewN m)) := (Turn.refl _ _ _).drewN _
        have s1 : (w.drewN m).heap.size = w.heap.size := size_drewN w m
        generalize w.drewN m = w1 at *
        have x0 := (X1.out.2 0 _ rfl).1; have x1 := (X1.out.2 1 _ rfl).1; have x2 := (X1.out.2 2 _ rfl).1; have x3 := (X1.out.2 3 _ rfl).1
        have f0 := (X1.out.2 0 _ rfl).2; have f1 := (X1.out.2 1 _ rfl).2; have f2 := (X1.out.2 2 _ rfl).2; have f3 := (X1.out.2 3 _ rfl).2
        go_wp2_with fail
        go_region_law ((go_simp; go_at_call 83; refine (writtenAt_any (a := q) (w := w1.drew) H1.out.drew G1.out.drew (by simp; omega) (by simp; omega) (by have := HL.out; have := hD60.out; omega) (by omega) (by omega) (by omega)).mono ?_; rintro e w2 ⟨A2, n2, c2, rfl, hc2, hb2, hi2⟩; rw [HM0.out] at hi2 ⊢; rw [HLL.out] at hi2; (try simp only [World.size_alloc, World.size_setCell, World.size_drew] at hb2 hi2); have HB2 := Lib.hid hb2; have HI2 := Lib.hid hi2; have hsz := hb2.size; (try simp only [World.size_alloc, World.size_setCell, World.size_drew] at hsz); clear hi2 hb2; have X2 := Lib.hid (X1.out.drew.below HB2.out (by omega)); clear x0 x1 x2 x3; clear f0 f1 f2 f3; have x0 := (X2.out.2 0 _ rfl).1; have x1 := (X2.out.2 1 _ rfl).1; have x2 := (X2.out.2 2 _ rfl).1; have x3 := (X2.out.2 3 _ rfl).1; have f0 := (X2.out.2 0 _ rfl).2; have f1 := (X2.out.2 1 _ rfl).2; have f2 := (X2.out.2 2 _ rfl).2; have f3 := (X2.out.2 3 _ rfl).2))
        all_goals
          go_wp2
          go_ret2
          have HN : Hid (Ints ((w2.setCell ⟨b, 0, none⟩ (.slice A2 n2 c2)).setCell ⟨b, 1, none⟩ (.int .i64 ((q : Int) + (m0 : Int)))) w1.heap.size w2.heap.size A2 n2 (wrL D q (L1.take m0))) := by
            show Ints _ _ _ _ _ _
            (repeat (with_reducible refine Ints.set_ ?_ (by omega) _))
            exact HI2.out
          refine ⟨A2, n2, c2, ?_, hc2, ?_, ?_, ?_, ?_⟩
          · rw [HMM.out, HS0.out]; rfl
          · exact (((T1.out.drew.step HB2.out (by omega)).put _).put _)
          · rw [HMM.out]
            simp only [World.size_setCell]
            exact HN.out.more (by omega) (by omega)
          · rw [HMM.out]
            have hx := (X2.out.put (i := 0) (by simp) (.slice A2 n2 c2)).put (i := 1) (by simp) (.int .i64 ((q : Int) + (m0 : Int)))
            simpa using hx
          · rw [HMM.out]
            simp only [World.size_setCell]
            exact Or.inr (HN.out.more (by omega) (by omega))
end Go.Proofs.YtdiebkaedjlckaaDoor
