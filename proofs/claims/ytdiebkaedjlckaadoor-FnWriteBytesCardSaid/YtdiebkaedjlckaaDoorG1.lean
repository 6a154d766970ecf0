/- Contracts of the promise laws' own helpers: comparisons of lists and of devices, a list's beginning, lists joined; a law's bytes. -/
import Derived.Test.YtdiebkaedjlckaaDoorL3
import Derived.Test.YtdiebkaedjlckaaDoorS1b
import Derived.Test.YtdiebkaedjlckaaDoorLawBase
import Derived.Test.YtdiebkaedjlckaaDoorApp2
import Derived.Test.YtdiebkaedjlckaaDoorD4
namespace Go.Proofs.YtdiebkaedjlckaaDoor
open Go.ChangeShapes Go.WideShapes Go.ChangeAt Go.RowKit
set_option linter.unusedSimpArgs false
set_option maxRecDepth 10000
set_option linter.unusedVariables false

/-- Bytes among a law's arguments. -/
theorem arg_bytes {H : Type} {enc : TypeId × Value → H} {W : World} {base : Nat} {v : Value} {d : DataW H} {p0 : List MemPlace} (hval : Value.okWide Tryd.prog W .any base 57 v) (h : DataW.Trod enc Tryd.prog W 0 (fun _ => true) true 57 v d p0)
    (hlt : ∀ p ∈ p0, p.block < W.heap.size) : ∃ A n c, v = .slice A n c ∧ n ≤ c ∧ BytesIn W W.heap.size A n ∧ n ≤ 9223372036854775807 := by
  obtain ⟨a0, len, cap, rfl⟩ := okWide_slice Tryd.underlying57 hval
  obtain ⟨fuel, hf⟩ := h
  rcases open_ints Tryd.underlying57 Tryd.underlying5 (by kernel_rfl) (by simpa [Value.cells] using hf) with ⟨hcs, _⟩ | ⟨a, l2, c2, zs, hcs, _, hl, hm, hz, hx, hcell, hwz⟩
  · simp only [List.cons.injEq, Value.slice.injEq, and_true] at hcs
    obtain ⟨rfl, rfl, rfl⟩ := hcs
    exact ⟨none, 0, 0, rfl, Nat.le_refl _, fun h => absurd h (by omega), by omega⟩
  · simp only [List.cons.injEq, Value.slice.injEq, and_true] at hcs
    obtain ⟨rfl, rfl, rfl⟩ := hcs
    simp only [if_true] at hz
    unfold maxLen at hm
    refine ⟨some a, _, _, rfl, hl, fun hn => ?_, by omega⟩
    obtain ⟨b, off, rfl, hcc⟩ := ints_at hcell (by omega)
    simp only [Prod.mk.injEq] at hx
    obtain ⟨-, rfl⟩ := hx
    refine ⟨b, off, rfl, hlt (.cell b off) (MemPlace.mem_row.2 ⟨0, by omega, by simp⟩), fun k hk => ?_⟩
    have hmem : zs.getD k 0 ∈ zs := by
      rw [List.getD_eq_getElem?_getD, List.getElem?_eq_getElem (by omega)]
      exact List.getElem_mem _
    have hw := hwz _ hmem
    have hb : 0 ≤ zs.getD k 0 ∧ zs.getD k 0 ≤ 255 := by
      simp only [Lit.wf] at hw
      obtain ⟨h1, h2⟩ := Bool.and_eq_true_iff.1 hw
      have h1 := of_decide_eq_true h1
      have h2 := of_decide_eq_true h2
      exact ⟨h1, h2⟩
    exact ⟨_, hb.1, hb.2, hcc k (by omega)⟩

set_option maxHeartbeats 400000 in
theorem equalInts_any {A A' : Option Addr} {n c n' c' : Nat} {xs ys : List Int} {w : World} {L B L' B' : Nat} (h : Ints w L B A n xs) (h' : Ints w L' B' A' n' ys) :
    Calls Tryd.prog 41 #[.slice A n c, .slice A' n' c'] w (BoolQ (sameB xs ys) w) := by
  have HL := Lib.hid h.len
  have HL' := Lib.hid h'.len
  have hm := h.max
  have hm' := h'.max
  by_cases hne : n = n'
  · subst hne
    go_enter Tryd.func41, Tryd.ntmps41
    go_wp2
    go_loopw [5] (fun i wr => ∃ k : Nat, k ≤ n ∧ i = .int .i64 k ∧ (∃ m, wr = w.drewN m) ∧ SameTo xs ys k) (fun i _ => n - (intOf i).toNat)
    case atStart => exact ⟨0, Nat.zero_le _, rfl, ⟨0, rfl⟩, fun j x y hj => absurd hj (by omega)⟩
    case round =>
      obtain ⟨k, hk, rfl, ⟨m, rfl⟩, hst⟩ := hrel
      have HS := Lib.hid hst
      clear hst
      by_cases hlt : k < n
      · obtain ⟨b, o, x, rfl, _, hc, hx⟩ := h.at_ hlt
        obtain ⟨b', o', y, rfl, _, hc', hy⟩ := h'.at_ hlt
        have hi0 : (0 : Int) ≤ (k : Int) := by omega
        have hi1 : (k : Int) < (n : Int) := by omega
        by_cases hxy : x = y
        · subst hxy
          go_wp2
          go_quiet (fail)
          go_wp2
          go_roundw
          case rel => exact ⟨k + 1, by omega, by go_num, ⟨_, rfl⟩, HS.out.succ hx.out hy.out⟩
          case measure => simp [intOf]; omega
        · have hb : (x != y) = true := by rw [bne_iff_ne]; exact hxy
          go_wp2
          go_quiet (fail)
          go_wp2
          go_ret
          have hn : ¬ xs = ys := fun e => by subst e; have h1 := hx.out; have h2 := hy.out; rw [h1] at h2; injection h2 with h2; exact hxy h2
          exact ⟨ret_bool (by simp [sameB, hn]), _, World.drewN_drewN _ _ _⟩
      · go_wp2
        go_ret
        have he : xs = ys := eq_of_take_all (by have := HL.out; have := HL'.out; omega) (fun j x y h1 h2 => HS.out j x y (by have := HL.out; have := (List.getElem?_eq_some_iff.1 h1).1; omega) h1 h2)
        exact ⟨ret_bool (by simp [sameB, he]), _, rfl⟩
  · have h1 : ((n : Int) != (n' : Int)) = true := by rw [bne_iff_ne]; omega
    go_enter Tryd.func41, Tryd.ntmps41
    go_wp2
    go_ret
    have hx : ¬ xs = ys := fun e => hne (by rw [HL.out, HL'.out, e])
    exact ⟨ret_bool (by simp [sameB, hx]), 0, rfl⟩

theorem equalInts_same {A A' : Option Addr} {n c n' c' : Nat} {xs ys : List Int} {w : World} {L B L' B' : Nat} (h : Ints w L B A n xs) (h' : Ints w L' B' A' n' ys) (he : xs = ys) :
    Calls Tryd.prog 41 #[.slice A n c, .slice A' n' c'] w (BoolB true w) :=
  (equalInts_any h h').mono fun e w' hh => by
    obtain ⟨rfl, m, rfl⟩ := hh
    exact ⟨ret_bool (by simp [sameB, he]), below_drewN (Below.refl _ _) m⟩

set_option maxHeartbeats 400000 in
theorem equalDevice_same {A A' X X' : Option Addr} {n c n' c' k d k' d' : Nat} {D S : List Int} {p q : Int} {w : World} {L L' B B' M M' C C' : Nat}
    (h : Ints w L B A n D) (h' : Ints w L' B' A' n' S) (g : Ints w M C X k D) (g' : Ints w M' C' X' k' S) (hB : B ≤ w.heap.size) (hB' : B' ≤ w.heap.size) (hC : C ≤ w.heap.size) (hC' : C' ≤ w.heap.size) :
    Calls Tryd.prog 81 #[.agg #[.slice A n c, .int .i64 p, .slice A' n' c', .int .i64 q], .agg #[.slice X k d, .int .i64 p, .slice X' k' d', .int .i64 q]] w (BoolB true w) := by
  have H1 := Lib.hid ((h.alloc hB (.cells #[.slice A n c, .int .i64 p, .slice A' n' c', .int .i64 q] 28)).alloc (by simp; omega) (.cells #[.slice X k d, .int .i64 p, .slice X' k' d', .int .i64 q] 28))
  have H2 := Lib.hid ((h'.alloc hB' (.cells #[.slice A n c, .int .i64 p, .slice A' n' c', .int .i64 q] 28)).alloc (by simp; omega) (.cells #[.slice X k d, .int .i64 p, .slice X' k' d', .int .i64 q] 28))
  have H3 := Lib.hid ((g.alloc hC (.cells #[.slice A n c, .int .i64 p, .slice A' n' c', .int .i64 q] 28)).alloc (by simp; omega) (.cells #[.slice X k d, .int .i64 p, .slice X' k' d', .int .i64 q] 28))
  have H4 := Lib.hid ((g'.alloc hC' (.cells #[.slice A n c, .int .i64 p, .slice A' n' c', .int .i64 q] 28)).alloc (by simp; omega) (.cells #[.slice X k d, .int .i64 p, .slice X' k' d', .int .i64 q] 28))
  clear h h' g g'
  go_enter Tryd.func81, Tryd.ntmps81
  go_wp2_with (go_at_call 41; (first | (with_reducible refine (equalInts_any H1.out H3.out).mono ?_) | (with_reducible refine (equalInts_any (H2.out.drewN _) (H4.out.drewN _)).mono ?_)); rw [show ∀ xs, sameB xs xs = true from fun xs => by simp [sameB]]; rintro e w' ⟨rfl, m, rfl⟩)
  all_goals
    go_ret
    refine ⟨ret_bool ?_, ?_⟩
    · simp
    · repeat (with_reducible refine below_drewN ?_ _)
      go_grown
end Go.Proofs.YtdiebkaedjlckaaDoor
