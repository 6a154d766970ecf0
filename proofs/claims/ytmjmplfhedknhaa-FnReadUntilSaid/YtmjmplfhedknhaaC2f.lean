/- Contracts of a reader at work: some. -/
import Derived.Test.YtmjmplfhedknhaaC2e
import Derived.Deep.RegionLaw
namespace Go.Proofs.Ytmjmplfhedknhaa
open Go.ChangeShapes Go.WideShapes Go.ChangeAt Go.RowKit
set_option linter.unusedSimpArgs false
set_option linter.unusedVariables false

theorem Ints.dropped {w : World} {lo hi n a : Nat} {A : Option Addr} {xs : List Int} (h : Ints w lo hi A n xs) (hz : n ≤ a) (A' : Option Addr) : Ints w lo hi A' (n - a) (xs.drop a) := by
  have hl := h.len
  have e : xs.drop a = [] := List.drop_eq_nil_of_le (by omega)
  rw [e, Nat.sub_eq_zero_of_le hz]
  exact (Ints.nil w lo hi 0 A').1
/-- What 'some' leaves where something was read ahead. -/
def SomePost (b M C : Nat) (A : Option Addr) (n c : Nat) (p : Int) (A' : Option Addr) (n' c' : Nat) (q : Int) (A2 : Option Addr) (n2 m : Nat) (R : List Int) (z : Int) (w : World) (e : Ending) (w' : World) : Prop :=
  ∃ A5 c5, e = .returned (.tuple #[.slice A2 m m, .int .i64 0]) ∧ n2 - m ≤ c5 ∧ Turn w.heap.size b w w' ∧ Ints w' M C A2 m (R.take m) ∧ Ints w' M C A5 (n2 - m) (R.drop m) ∧ Box w' b [.slice (A) n c, .int .i64 (p), .slice (A') n' c', .int .i64 (q), .slice (A5) (n2 - m) c5, .int .i64 (z)] ∧ (n2 - m = 0 ∨ A5 = A2.map fun x => x.add m)

set_option maxHeartbeats 2000000 in
theorem some_full {A A' A2 : Option Addr} {n c n' c' n2 c2 b k m M C : Nat} {R : List Int} {p q z : Int} {w : World} (hX : Box w b [.slice (A) n c, .int .i64 (p), .slice (A') n' c', .int .i64 (q), .slice (A2) n2 c2, .int .i64 (z)]) (g : Ints w M C A2 n2 R) (hb : b < M ∨ C ≤ b) (h0 : 0 < n2) (hc : n2 ≤ c2) (hm : m = min k n2) (hk : k ≤ 1000000) :
    Calls Try.prog 40 #[.pointer (some ⟨b, 0, none⟩), .int .i64 (k : Int)] w (SomePost b M C A n c p A' n' c' q A2 n2 m R z w) := by
  have HX := Lib.hid hX
  have G := Lib.hid g
  clear hX g
  have hm0 : (0 : Int) ≤ (m : Int) := by omega
  have hmn : (m : Int) ≤ (n2 : Int) := by omega
  have hmnN : m ≤ n2 := by omega
  have hnc : (n2 : Int) ≤ (c2 : Int) := by omega
  have HM := Lib.hid hm
  clear hm
  by_cases hcm : c2 = m
  · go_enter Try.func40, Try.ntmps40
    go_wp2_with fail
    refine (fill_full HX.out h0).mono ?_
    rintro e w1 ⟨rfl, rfl⟩
    go_wp2_with fail
    refine (first_any HX.out hc HM.out hk).mono ?_
    rintro e w2 ⟨rfl, rfl⟩
    have x0 := (HX.out.2 0 _ rfl).1; have x1 := (HX.out.2 1 _ rfl).1; have x2 := (HX.out.2 2 _ rfl).1; have x3 := (HX.out.2 3 _ rfl).1; have x4 := (HX.out.2 4 _ rfl).1; have x5 := (HX.out.2 5 _ rfl).1
    have f0 := (HX.out.2 0 _ rfl).2; have f1 := (HX.out.2 1 _ rfl).2; have f2 := (HX.out.2 2 _ rfl).2; have f3 := (HX.out.2 3 _ rfl).2; have f4 := (HX.out.2 4 _ rfl).2; have f5 := (HX.out.2 5 _ rfl).2
    go_wp2
    go_ret2
    refine ⟨A2, 0, rfl, by omega, (Turn.refl _ _ _).put _, (G.out.take hmnN).set_ hb _, (G.out.dropped (by omega) A2).set_ hb _, ?_⟩
    have hx := HX.out.put (i := 4) (by simp) (.slice A2 (n2 - m) 0)
    exact ⟨by simpa using hx, .inl (by omega)⟩
  · go_enter Try.func40, Try.ntmps40
    go_wp2_with fail
    refine (fill_full HX.out h0).mono ?_
    rintro e w1 ⟨rfl, rfl⟩
    go_wp2_with fail
    refine (first_any HX.out hc HM.out hk).mono ?_
    rintro e w2 ⟨rfl, rfl⟩
    have x0 := (HX.out.2 0 _ rfl).1; have x1 := (HX.out.2 1 _ rfl).1; have x2 := (HX.out.2 2 _ rfl).1; have x3 := (HX.out.2 3 _ rfl).1; have x4 := (HX.out.2 4 _ rfl).1; have x5 := (HX.out.2 5 _ rfl).1
    have f0 := (HX.out.2 0 _ rfl).2; have f1 := (HX.out.2 1 _ rfl).2; have f2 := (HX.out.2 2 _ rfl).2; have f3 := (HX.out.2 3 _ rfl).2; have f4 := (HX.out.2 4 _ rfl).2; have f5 := (HX.out.2 5 _ rfl).2
    go_wp2
    go_ret2
    refine ⟨A2.map fun x => x.add m, c2 - m, rfl, by omega, (Turn.refl _ _ _).put _, (G.out.take hmnN).set_ hb _, (G.out.drop hmnN).set_ hb _, ?_⟩
    have hx := HX.out.put (i := 4) (by simp) (.slice (A2.map fun x => x.add m) (n2 - m) (c2 - m))
    exact ⟨by simpa using hx, .inr rfl⟩

set_option maxHeartbeats 2000000 in
theorem some_end {A A' A2 : Option Addr} {n c n' c' c2 a b k : Nat} {D S : List Int} {p z : Int} {w : World} {L B L' B' : Nat} (hX : Box w b [.slice (A) n c, .int .i64 (p), .slice (A') n' c', .int .i64 ((a : Int)), .slice (A2) 0 c2, .int .i64 (z)]) (h : Ints w L B A n D) (h' : Ints w L' B' A' n' S)
    (hb : b < L ∨ B ≤ b) (hb' : b < L' ∨ B' ≤ b) (hB : B ≤ w.heap.size) (hB' : B' ≤ w.heap.size) (hnc : n ≤ c) (hv : validD D p S a = true) (ha : a < 1000) (hz : 1 ≤ z) (hz' : z ≤ 60) (hst : ¬ rdSt D p (mayAt S a) = 0) :
    Calls Try.prog 40 #[.pointer (some ⟨b, 0, none⟩), .int .i64 (k : Int)] w (fun e w' => ∃ A1 n1 c1, e = .returned (.tuple #[.slice none 0 0, .int .i64 (rdSt D p (mayAt S a))]) ∧ n1 ≤ c1 ∧ Turn w.heap.size b w w' ∧ Ints w' w.heap.size w'.heap.size A1 n1 (rdL D p (mayAt S a) z) ∧
      Box w' b [.slice (A) n c, .int .i64 (p + ((rdL D p (mayAt S a) z).length : Int)), .slice (A') n' c', .int .i64 ((a : Int) + 1), .slice (A1) n1 c1, .int .i64 (z)]) := by
  have hfill := fill_any hX h h' hb hb' hB hB' hnc hv ha hz hz'
  have hne : (rdSt D p (mayAt S a) != 0) = true := by simp [hst]
  have HF := Lib.hid hfill
  clear hfill hX h h' hv hst
  go_enter Try.func40, Try.ntmps40
  go_wp2_with fail
  refine HF.out.mono ?_
  rintro e w1 ⟨A1, n1, c1, rfl, hc1, ht, hi, hx⟩
  have HT := Lib.hid ht
  have HI := Lib.hid hi
  have HX1 := Lib.hid hx
  clear ht hi hx
  go_wp2
  go_ret2
  exact ⟨A1, n1, c1, rfl, hc1, HT.out, HI.out, HX1.out⟩

set_option maxHeartbeats 2000000 in
theorem some_read {A A' A2 : Option Addr} {n c n' c' c2 a b k : Nat} {D S : List Int} {p z : Int} {w : World} {L B L' B' : Nat} (hX : Box w b [.slice (A) n c, .int .i64 (p), .slice (A') n' c', .int .i64 ((a : Int)), .slice (A2) 0 c2, .int .i64 (z)]) (h : Ints w L B A n D) (h' : Ints w L' B' A' n' S)
    (hb : b < L ∨ B ≤ b) (hb' : b < L' ∨ B' ≤ b) (hB : B ≤ w.heap.size) (hB' : B' ≤ w.heap.size) (hnc : n ≤ c) (hv : validD D p S a = true) (ha : a < 1000) (hz : 1 ≤ z) (hz' : z ≤ 60) (hst : rdSt D p (mayAt S a) = 0) (hk : k ≤ 1000000) :
    Calls Try.prog 40 #[.pointer (some ⟨b, 0, none⟩), .int .i64 (k : Int)] w (fun e w' => ∃ A1 A5 c5 n1 m, m = min k n1 ∧ e = .returned (.tuple #[.slice A1 m m, .int .i64 0]) ∧ n1 - m ≤ c5 ∧ Turn w.heap.size b w w' ∧ n1 = (rdL D p (mayAt S a) z).length ∧
      Ints w' w.heap.size w'.heap.size A1 m ((rdL D p (mayAt S a) z).take m) ∧ Ints w' w.heap.size w'.heap.size A5 (n1 - m) ((rdL D p (mayAt S a) z).drop m) ∧ Box w' b [.slice (A) n c, .int .i64 (p + ((rdL D p (mayAt S a) z).length : Int)), .slice (A') n' c', .int .i64 ((a : Int) + 1), .slice (A5) (n1 - m) c5, .int .i64 (z)] ∧ (n1 - m = 0 ∨ A5 = A1.map fun x => x.add m) ∧ Ints w' w.heap.size w'.heap.size A1 n1 (rdL D p (mayAt S a) z)) := by
  have hfill := fill_any hX h h' hb hb' hB hB' hnc hv ha hz hz'
  have hbw := hX.lt
  unfold FillPost at hfill
  rw [hst] at hfill
  have HF := Lib.hid hfill
  clear hfill hX h h' hv hst
  go_enter Try.func40, Try.ntmps40
  go_wp2_with fail
  refine HF.out.mono ?_
  rintro e w1 ⟨A1, n1, c1, rfl, hc1, ht, hi, hx⟩
  have HT := Lib.hid ht
  have HI := Lib.hid hi
  have HX1 := Lib.hid hx
  have s1 := ht.size
  clear ht hi hx
  obtain ⟨m, hm⟩ : ∃ m, m = min k n1 := ⟨_, rfl⟩
  have hm0 : (0 : Int) ≤ (m : Int) := by omega
  have hmn : (m : Int) ≤ (n1 : Int) := by omega
  have hmnN : m ≤ n1 := by omega
  have hnc1 : (n1 : Int) ≤ (c1 : Int) := by omega
  have HM := Lib.hid hm
  clear hm
  go_wp2_with fail
  refine (first_any HX1.out hc1 HM.out hk).mono ?_
  rintro e w2 ⟨rfl, rfl⟩
  have x0 := (HX1.out.2 0 _ rfl).1; have x1 := (HX1.out.2 1 _ rfl).1; have x2 := (HX1.out.2 2 _ rfl).1; have x3 := (HX1.out.2 3 _ rfl).1; have x4 := (HX1.out.2 4 _ rfl).1; have x5 := (HX1.out.2 5 _ rfl).1
  have f0 := (HX1.out.2 0 _ rfl).2; have f1 := (HX1.out.2 1 _ rfl).2; have f2 := (HX1.out.2 2 _ rfl).2; have f3 := (HX1.out.2 3 _ rfl).2; have f4 := (HX1.out.2 4 _ rfl).2; have f5 := (HX1.out.2 5 _ rfl).2
  by_cases hcm : c1 = m
  · go_wp2
    go_ret2
    refine ⟨A1, A1, 0, n1, m, HM.out, rfl, by omega, HT.out.put _, HI.out.len, ?_, ?_, ?_, .inl (by omega), ?_⟩
    · simp only [World.size_setCell]
      exact (HI.out.take hmnN).set_ (Or.inl hbw) _
    · simp only [World.size_setCell]
      exact (HI.out.dropped (by omega) A1).set_ (Or.inl hbw) _
    · have hx := HX1.out.put (i := 4) (by simp) (.slice A1 (n1 - m) 0)
      simpa using hx
    · simp only [World.size_setCell]
      exact HI.out.set_ (Or.inl hbw) _
  · go_wp2
    go_ret2
    refine ⟨A1, A1.map fun x => x.add m, c1 - m, n1, m, HM.out, rfl, by omega, HT.out.put _, HI.out.len, ?_, ?_, ?_, .inr rfl, ?_⟩
    · simp only [World.size_setCell]
      exact (HI.out.take hmnN).set_ (Or.inl hbw) _
    · simp only [World.size_setCell]
      exact (HI.out.drop hmnN).set_ (Or.inl hbw) _
    · have hx := HX1.out.put (i := 4) (by simp) (.slice (A1.map fun x => x.add m) (n1 - m) (c1 - m))
      simpa using hx
    · simp only [World.size_setCell]
      exact HI.out.set_ (Or.inl hbw) _
end Go.Proofs.Ytmjmplfhedknhaa
