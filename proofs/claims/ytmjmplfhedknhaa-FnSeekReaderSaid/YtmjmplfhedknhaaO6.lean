/- Contracts of the drawing of readers' arguments. -/
import Derived.Test.YtmjmplfhedknhaaO5
namespace Go.Proofs.Ytmjmplfhedknhaa
open Go.ChangeShapes Go.WideShapes Go.ChangeAt Go.RowKit
set_option linter.unusedSimpArgs false
set_option linter.unusedVariables false
set_option maxRecDepth 100000

theorem lit1R (w : World) (x : Int) (h : okInt x) : Ints (w.alloc (.cells #[.int .i64 x] 3)) w.heap.size (w.heap.size + 1) (some ⟨w.heap.size, 0, none⟩) 1 [x] :=
  ⟨rfl, by omega, (fun y hy => by simp at hy; subst hy; exact h), fun _ => ⟨w.heap.size, 0, rfl, Nat.le_refl _, Nat.lt_succ_self _, fun j y hy => by
    rw [Nat.zero_add]
    exact (Box.new w _ [.int .i64 x]).2 j (.int .i64 y) (by
      cases j with
      | zero => simp at hy ⊢; exact hy
      | succ j => simp at hy)⟩⟩
theorem RowI.put_ {w : World} {lo hi n c b o : Nat} {A : Option Addr} {xs : List Int} (h : RowI w lo hi A n c xs) (hk : ∀ k, (Value.slice A n c).ownBlock = some k → k ≠ b) (u : Value) : RowI (w.setCell ⟨b, o, none⟩ u) lo hi A n c xs := by
  refine ⟨h.1, h.2.1, ?_⟩
  rcases h.2.2 with h0 | ⟨g, cur, e, h1, h2, h3, h4⟩
  · exact .inl h0
  · subst e
    exact .inr ⟨g, cur, rfl, h1, h2, (Below.heap_setCell w ⟨b, o, none⟩ u g (hk g rfl)).trans h3, h4⟩
set_option maxHeartbeats 16000000 in
theorem someReader_any {g P : Nat} {w : World} (h : Ch w g P) (hP : P ≤ 400000) : Calls Try.prog 35 #[.pointer (some ⟨g, 0, none⟩)] w (RdrDraw 61 g (P + 400) w) := by
  have hg := h.lt
  have HCH := Lib.hid (Ch.alloc h (.cells #[.slice none 0 0, .int .i64 0, .slice none 0 0, .int .i64 0, .slice none 0 0, .int .i64 0] 27))
  have R0 := Lib.hid (Box.new w 27 [.slice none 0 0, .int .i64 0, .slice none 0 0, .int .i64 0, .slice none 0 0, .int .i64 0])
  have T0 : Hid (Turn w.heap.size g w (w.alloc (.cells #[.slice none 0 0, .int .i64 0, .slice none 0 0, .int .i64 0, .slice none 0 0, .int .i64 0] 27))) := Turn.of_below (Below.alloc (Below.refl _ _) (Nat.le_refl _) _) (Nat.le_refl _)
  have s0 : w.heap.size + 1 ≤ (w.alloc (.cells #[.slice none 0 0, .int .i64 0, .slice none 0 0, .int .i64 0, .slice none 0 0, .int .i64 0] 27)).heap.size := by simp
  clear h
  go_enter Try.func35, Try.ntmps35
  go_wp2_with fail
  generalize w.alloc (.cells #[.slice none 0 0, .int .i64 0, .slice none 0 0, .int .i64 0, .slice none 0 0, .int .i64 0] 27) = w0 at *
  refine (goodReaderOf_any HCH.out (by omega)).mono ?_
  rintro e w1 ⟨A, n, c, A', n', c', A2, n2, c2, D, S, R, p, q, z, M, rfl, ⟨hc, hc'⟩, ⟨hn, hn', hn2⟩, hp, hq, hz, hM0, hM1, hD, hS, hB, hch, ht⟩
  have s1 := ht.size
  have X2 := Lib.hid (Box.new w1 27 [.slice (A) n c, .int .i64 (p), .slice (A') n' c', .int .i64 (q), .slice (A2) n2 c2, .int .i64 (z)])
  have D2 := Lib.hid (hD.alloc hM1 (.cells #[.slice (A) n c, .int .i64 (p), .slice (A') n' c', .int .i64 (q), .slice (A2) n2 c2, .int .i64 (z)] 27)); have S2 := Lib.hid (hS.alloc hM1 (.cells #[.slice (A) n c, .int .i64 (p), .slice (A') n' c', .int .i64 (q), .slice (A2) n2 c2, .int .i64 (z)] 27)); have B2 := Lib.hid (hB.alloc (Nat.le_refl _) (.cells #[.slice (A) n c, .int .i64 (p), .slice (A') n' c', .int .i64 (q), .slice (A2) n2 c2, .int .i64 (z)] 27))
  have C2 := Lib.hid (Ch.alloc hch (.cells #[.slice (A) n c, .int .i64 (p), .slice (A') n' c', .int .i64 (q), .slice (A2) n2 c2, .int .i64 (z)] 27))
  have R2 := Lib.hid ((R0.out.turn ht (by omega) (by omega)).alloc (.cells #[.slice (A) n c, .int .i64 (p), .slice (A') n' c', .int .i64 (q), .slice (A2) n2 c2, .int .i64 (z)] 27))
  have T2 := Lib.hid ((T0.out.trans (ht.mono (by omega))).step (Below.alloc (Below.refl _ w1) (Nat.le_refl _) (.cells #[.slice (A) n c, .int .i64 (p), .slice (A') n' c', .int .i64 (q), .slice (A2) n2 c2, .int .i64 (z)] 27)) (by omega))
  have s2 : w1.heap.size + 1 ≤ (w1.alloc (.cells #[.slice (A) n c, .int .i64 (p), .slice (A') n' c', .int .i64 (q), .slice (A2) n2 c2, .int .i64 (z)] 27)).heap.size := by simp
  clear hD hS hB hch ht HCH R0 T0
  go_wp2_with fail
  generalize w1.alloc (.cells #[.slice (A) n c, .int .i64 (p), .slice (A') n' c', .int .i64 (q), .slice (A2) n2 c2, .int .i64 (z)] 27) = w2 at *
  refine (pick_any C2.out (by omega) (by decide)).mono ?_
  rintro e w3 ⟨t, rfl, _, hch, ht⟩
  have s3 := ht.size
  have X3 := Lib.hid (X2.out.turn ht (by omega) (by omega)); have D3 := Lib.hid (D2.out.turn ht (by omega) (by omega)); have S3 := Lib.hid (S2.out.turn ht (by omega) (by omega)); have B3 := Lib.hid (B2.out.turn ht (by omega) (by omega))
  have C3 := Lib.hid hch; have R3 := Lib.hid (R2.out.turn ht (by omega) (by omega)); have T3 := Lib.hid (T2.out.trans (ht.mono (by omega)))
  clear hch ht X2 D2 S2 B2 C2 R2 T2
  by_cases h0 : t = 0
  · subst h0
    go_wp2_with fail
    refine (one_lit [0, 17] C3.out (by omega) rfl rfl rfl (by decide) (by decide) (by decide)).mono ?_
    rintro e w4 ⟨y, hy, rfl, hch, ht⟩
    have hy1 : 0 ≤ y ∧ y ≤ 17 := by simp at hy; omega
    have s4 := ht.size
    have X4 := Lib.hid (X3.out.turn ht (by omega) (by omega)); have D4 := Lib.hid (D3.out.turn ht (by omega) (by omega)); have S4 := Lib.hid (S3.out.turn ht (by omega) (by omega)); have B4 := Lib.hid (B3.out.turn ht (by omega) (by omega)); have C4 := Lib.hid hch; have R4 := Lib.hid (R3.out.turn ht (by omega) (by omega)); have T4 := Lib.hid (T3.out.trans (ht.mono (by omega)))
    clear hy hch ht X3 D3 S3 B3 C3 R3 T3
    have zx := (X4.out.2 5 _ rfl).1; have zf := (X4.out.2 5 _ rfl).2
    go_upto_region 11 with (fail)
    have X5 : Hid (Box (w4.setCell ⟨w1.heap.size, 5, none⟩ (.int .i64 y)) w1.heap.size [.slice A n c, .int .i64 p, .slice A' n' c', .int .i64 q, .slice A2 n2 c2, .int .i64 y]) := by show Box _ _ _; have hx := X4.out.put (i := 5) (by simp) (.int .i64 y); simpa using hx
    have R5 := Lib.hid (R4.out.set_ (b' := w1.heap.size) (o := 5) (by omega) (.int .i64 y)); have D5 := Lib.hid (D4.out.set_ (b := w1.heap.size) (o := 5) (by omega) (.int .i64 y)); have S5 := Lib.hid (S4.out.set_ (b := w1.heap.size) (o := 5) (by omega) (.int .i64 y)); have B5 := Lib.hid (B4.out.set_ (b := w1.heap.size) (o := 5) (by omega) (.int .i64 y))
    have C5 : Hid (Ch (w4.setCell ⟨w1.heap.size, 5, none⟩ (.int .i64 y)) g _) := C4.out.below (B := w.heap.size) (by (repeat (with_reducible refine below_set ?_ (by omega) _)); exact Below.refl _ _) hg
    have T5 : Hid (Turn w.heap.size g w (w4.setCell ⟨w1.heap.size, 5, none⟩ (.int .i64 y))) := T4.out.step (C := w.heap.size) (by (repeat (with_reducible refine below_set ?_ (by omega) _)); exact Below.refl _ _) (Nat.le_refl _)
    have z5 : w4.heap.size ≤ (w4.setCell ⟨w1.heap.size, 5, none⟩ (.int .i64 y)).heap.size := by simp
    clear zx zf X4 R4 D4 S4 B4 C4 T4
    generalize (w4.setCell ⟨w1.heap.size, 5, none⟩ (.int .i64 y)) = w5 at *
    have rl := R5.out.lt
    have x0 := (X5.out.2 0 _ rfl).1; have r0 := (R5.out.2 0 _ rfl).1; have f0 := (R5.out.2 0 _ rfl).2
    have x1 := (X5.out.2 1 _ rfl).1; have r1 := (R5.out.2 1 _ rfl).1; have f1 := (R5.out.2 1 _ rfl).2
    have x2 := (X5.out.2 2 _ rfl).1; have r2 := (R5.out.2 2 _ rfl).1; have f2 := (R5.out.2 2 _ rfl).2
    have x3 := (X5.out.2 3 _ rfl).1; have r3 := (R5.out.2 3 _ rfl).1; have f3 := (R5.out.2 3 _ rfl).2
    have x4 := (X5.out.2 4 _ rfl).1; have r4 := (R5.out.2 4 _ rfl).1; have f4 := (R5.out.2 4 _ rfl).2
    have x5 := (X5.out.2 5 _ rfl).1; have r5 := (R5.out.2 5 _ rfl).1; have f5 := (R5.out.2 5 _ rfl).2
    go_wp2
    refine bodyPost_ret (v := .agg #[.slice A n c, .int .i64 p, .slice A' n' c', .int .i64 q, .slice A2 n2 c2, .int .i64 y]) (by simp [results, Try.results35, go_sem, x0, r0, f0, x1, r1, f1, x2, r2, f2, x3, r3, f3, x4, r4, f4, x5, r5, f5]) rfl ?_
    refine ⟨A, n, c, A', n', c', A2, n2, c2, D, S, R, p, q, y, M, rfl, ⟨hc, hc'⟩, ⟨by omega, by omega, by omega⟩, by omega, by omega, by omega, by omega, ?_, ?_, ?_, ?_, ?_, ?_⟩
    · simp only [World.size_setCell]; omega
    · refine Ints.more (lo := w0.heap.size) (hi := M) ?_ (by omega) (Nat.le_refl _)
      (repeat (with_reducible refine Ints.set_ ?_ (by omega) _))
      exact D5.out
    · refine Ints.more (lo := w0.heap.size) (hi := M) ?_ (by omega) (Nat.le_refl _)
      (repeat (with_reducible refine Ints.set_ ?_ (by omega) _))
      exact S5.out
    · simp only [World.size_setCell]
      refine RowI.more (lo := M) (hi := w1.heap.size) ?_ (Nat.le_refl _) (by omega)
      (repeat (with_reducible refine RowI.set_ ?_ (by omega) _))
      exact B5.out
    · refine Ch.more (Ch.below C5.out (B := w.heap.size) ?_ hg) (by omega)
      (repeat (with_reducible refine below_set ?_ (by omega) _))
      exact Below.refl _ _
    · refine T5.out.step (C := w.heap.size) ?_ (Nat.le_refl _)
      (repeat (with_reducible refine below_set ?_ (by omega) _))
      exact Below.refl _ _
  · have e0 : (t == 0) = false := by simp [h0]
    by_cases h1 : t = 1
    · subst h1
      have zx := (X3.out.2 4 _ rfl).1; have zf := (X3.out.2 4 _ rfl).2
      have a7 : okInt 7 := by unfold okInt; omega
      have G3 := Lib.hid (X3.out.alloc (.cells #[.int .i64 7] 3)); have zx := (G3.out.2 4 _ rfl).1; have zf := (G3.out.2 4 _ rfl).2
      go_wp2_with (at_builtin; refine wpList_append_at rfl (.tmp 17) (.tmp 18) rfl M (.slice A2 n2 c2) n2 R rfl (B3.out.own.alloc _) (some ⟨w3.heap.size, 0, none⟩) 1 1 [7] rfl (lit1R w3 7 a7) (by omega) (by simp; omega) ?_)
      intro v' w4 hown hgr hob
      have hok : ∀ x ∈ R ++ [7], okInt x := fun x hx => by rcases List.mem_append.1 hx with h | h; (exact B3.out.ok x h); (simp at h; subst h; exact a7)
      obtain ⟨A5, c5, rfl, hc5, _⟩ := hown.ints hok
      have hbl : ∀ k, k ≤ w3.heap.size → (∀ j, (Value.slice A2 n2 c2).ownBlock = some j → j ≠ k) → w4.heap[k]? = (w3.alloc (.cells #[.int .i64 7] 3)).heap[k]? := fun k hk hj => hgr.block k (by simp; omega) (fun e => hj k e.symm rfl)
      have hob2 : ∀ j, (Value.slice A2 n2 c2).ownBlock = some j → M ≤ j ∧ j < w1.heap.size := B3.out.lt
      have s4 : w3.heap.size + 1 ≤ w4.heap.size := by have := hgr.size; simp at this; omega
      have X4 := Lib.hid (Box.block (X3.out.alloc (.cells #[.int .i64 7] 3)) (hbl w1.heap.size (by omega) (fun j hj => by have := hob2 j hj; omega)) hgr.size)
      have R4 := Lib.hid (Box.block (R3.out.alloc (.cells #[.int .i64 7] 3)) (hbl w.heap.size (by omega) (fun j hj => by have := hob2 j hj; omega)) hgr.size)
      have D4 := Lib.hid ((D3.out.alloc (by omega) (.cells #[.int .i64 7] 3)).blocks (w' := w4) fun k h1 h2 => hbl k (by omega) (fun j hj => by have := hob2 j hj; omega)); have S4 := Lib.hid ((S3.out.alloc (by omega) (.cells #[.int .i64 7] 3)).blocks (w' := w4) fun k h1 h2 => hbl k (by omega) (fun j hj => by have := hob2 j hj; omega))
      have B4 : Hid (RowI w4 M w4.heap.size A5 (n2 + 1) c5 (R ++ [7])) := RowI.of_own hown hok fun k hk => hown.lt k hk
      have HB4 : Below w.heap.size (w3.alloc (.cells #[.int .i64 7] 3)) w4 := (below_grown (B3.out.own.alloc (.cells #[.int .i64 7] 3)) hgr (by simp; omega)).mono (by omega)
      have C4 := Lib.hid ((Ch.alloc C3.out (.cells #[.int .i64 7] 3)).below HB4 hg)
      have T4 := Lib.hid (T3.out.step ((Below.alloc (Below.refl w.heap.size w3) (by omega) (.cells #[.int .i64 7] 3)).trans HB4) (Nat.le_refl _))
      have hne7 : ∀ j, (Value.slice A5 (n2 + 1) c5).ownBlock = some j → j ≠ w1.heap.size := fun j hj => by
        rcases hob with e | e
        · rw [e] at hj; have := hob2 j hj; omega
        · rw [e] at hj; injection hj with hj; (try simp at hj); omega
      clear hown hgr hob hbl hob2 HB4 hok zx zf G3 X3 R3 D3 S3 B3 C3 T3
      have zx := (X4.out.2 4 _ rfl).1; have zf := (X4.out.2 4 _ rfl).2
      go_upto_region 11 with (fail)
      have X5 : Hid (Box (w4.setCell ⟨w1.heap.size, 4, none⟩ (.slice A5 (n2 + 1) c5)) w1.heap.size [.slice A n c, .int .i64 p, .slice A' n' c', .int .i64 q, .slice A5 (n2 + 1) c5, .int .i64 z]) := by show Box _ _ _; have hx := X4.out.put (i := 4) (by simp) (.slice A5 (n2 + 1) c5); simpa using hx
      have hnb : ∀ j, (Value.slice A5 (n2 + 1) c5).ownBlock = some j → j ≠ w1.heap.size := hne7
      have R5 := Lib.hid (R4.out.set_ (b' := w1.heap.size) (o := 4) (by omega) (.slice A5 (n2 + 1) c5)); have D5 := Lib.hid (D4.out.set_ (b := w1.heap.size) (o := 4) (by omega) (.slice A5 (n2 + 1) c5)); have S5 := Lib.hid (S4.out.set_ (b := w1.heap.size) (o := 4) (by omega) (.slice A5 (n2 + 1) c5))
      have B5 : Hid (RowI (w4.setCell ⟨w1.heap.size, 4, none⟩ (.slice A5 (n2 + 1) c5)) M w4.heap.size A5 (n2 + 1) c5 (R ++ [7])) := B4.out.put_ hnb _
      have C5 : Hid (Ch (w4.setCell ⟨w1.heap.size, 4, none⟩ (.slice A5 (n2 + 1) c5)) g _) := C4.out.below (B := w.heap.size) (by (repeat (with_reducible refine below_set ?_ (by omega) _)); exact Below.refl _ _) hg
      have T5 : Hid (Turn w.heap.size g w (w4.setCell ⟨w1.heap.size, 4, none⟩ (.slice A5 (n2 + 1) c5))) := T4.out.step (C := w.heap.size) (by (repeat (with_reducible refine below_set ?_ (by omega) _)); exact Below.refl _ _) (Nat.le_refl _)
      have z5 : w4.heap.size ≤ (w4.setCell ⟨w1.heap.size, 4, none⟩ (.slice A5 (n2 + 1) c5)).heap.size := by simp
      clear zx zf X4 R4 D4 S4 B4 C4 T4 hnb hne7
      generalize (w4.setCell ⟨w1.heap.size, 4, none⟩ (.slice A5 (n2 + 1) c5)) = w5 at *
      have rl := R5.out.lt
      have x0 := (X5.out.2 0 _ rfl).1; have r0 := (R5.out.2 0 _ rfl).1; have f0 := (R5.out.2 0 _ rfl).2
      have x1 := (X5.out.2 1 _ rfl).1; have r1 := (R5.out.2 1 _ rfl).1; have f1 := (R5.out.2 1 _ rfl).2
      have x2 := (X5.out.2 2 _ rfl).1; have r2 := (R5.out.2 2 _ rfl).1; have f2 := (R5.out.2 2 _ rfl).2
      have x3 := (X5.out.2 3 _ rfl).1; have r3 := (R5.out.2 3 _ rfl).1; have f3 := (R5.out.2 3 _ rfl).2
      have x4 := (X5.out.2 4 _ rfl).1; have r4 := (R5.out.2 4 _ rfl).1; have f4 := (R5.out.2 4 _ rfl).2
      have x5 := (X5.out.2 5 _ rfl).1; have r5 := (R5.out.2 5 _ rfl).1; have f5 := (R5.out.2 5 _ rfl).2
      go_wp2
      refine bodyPost_ret (v := .agg #[.slice A n c, .int .i64 p, .slice A' n' c', .int .i64 q, .slice A5 (n2 + 1) c5, .int .i64 z]) (by simp [results, Try.results35, go_sem, x0, r0, f0, x1, r1, f1, x2, r2, f2, x3, r3, f3, x4, r4, f4, x5, r5, f5]) rfl ?_
      refine ⟨A, n, c, A', n', c', A5, (n2 + 1), c5, D, S, (R ++ [7]), p, q, z, M, rfl, ⟨hc, hc'⟩, ⟨by omega, by omega, by omega⟩, by omega, by omega, by omega, by omega, ?_, ?_, ?_, ?_, ?_, ?_⟩
      · simp only [World.size_setCell]; omega
      · refine Ints.more (lo := w0.heap.size) (hi := M) ?_ (by omega) (Nat.le_refl _)
        (repeat (with_reducible refine Ints.set_ ?_ (by omega) _))
        exact D5.out
      · refine Ints.more (lo := w0.heap.size) (hi := M) ?_ (by omega) (Nat.le_refl _)
        (repeat (with_reducible refine Ints.set_ ?_ (by omega) _))
        exact S5.out
      · simp only [World.size_setCell]
        refine RowI.more (lo := M) (hi := w4.heap.size) ?_ (Nat.le_refl _) (by omega)
        (repeat (with_reducible refine RowI.set_ ?_ (by omega) _))
        exact B5.out
      · refine Ch.more (Ch.below C5.out (B := w.heap.size) ?_ hg) (by omega)
        (repeat (with_reducible refine below_set ?_ (by omega) _))
        exact Below.refl _ _
      · refine T5.out.step (C := w.heap.size) ?_ (Nat.le_refl _)
        (repeat (with_reducible refine below_set ?_ (by omega) _))
        exact Below.refl _ _
    · have e1 : (t == 1) = false := by simp [h1]
      by_cases h2 : t = 2
      · subst h2
        go_wp2_with fail
        refine (one_lit [1000, 901, -1] C3.out (by omega) rfl rfl rfl (by decide) (by decide) (by decide)).mono ?_
        rintro e w4 ⟨y, hy, rfl, hch, ht⟩
        have hy1 : -1 ≤ y ∧ y ≤ 1000 := by simp at hy; omega
        have s4 := ht.size
        have X4 := Lib.hid (X3.out.turn ht (by omega) (by omega)); have D4 := Lib.hid (D3.out.turn ht (by omega) (by omega)); have S4 := Lib.hid (S3.out.turn ht (by omega) (by omega)); have B4 := Lib.hid (B3.out.turn ht (by omega) (by omega)); have C4 := Lib.hid hch; have R4 := Lib.hid (R3.out.turn ht (by omega) (by omega)); have T4 := Lib.hid (T3.out.trans (ht.mono (by omega)))
        clear hy hch ht X3 D3 S3 B3 C3 R3 T3
        have zx := (X4.out.2 3 _ rfl).1; have zf := (X4.out.2 3 _ rfl).2
        go_upto_region 11 with (fail)
        have X5 : Hid (Box (w4.setCell ⟨w1.heap.size, 3, none⟩ (.int .i64 y)) w1.heap.size [.slice A n c, .int .i64 p, .slice A' n' c', .int .i64 y, .slice A2 n2 c2, .int .i64 z]) := by show Box _ _ _; have hx := X4.out.put (i := 3) (by simp) (.int .i64 y); simpa using hx
        have R5 := Lib.hid (R4.out.set_ (b' := w1.heap.size) (o := 3) (by omega) (.int .i64 y)); have D5 := Lib.hid (D4.out.set_ (b := w1.heap.size) (o := 3) (by omega) (.int .i64 y)); have S5 := Lib.hid (S4.out.set_ (b := w1.heap.size) (o := 3) (by omega) (.int .i64 y)); have B5 := Lib.hid (B4.out.set_ (b := w1.heap.size) (o := 3) (by omega) (.int .i64 y))
        have C5 : Hid (Ch (w4.setCell ⟨w1.heap.size, 3, none⟩ (.int .i64 y)) g _) := C4.out.below (B := w.heap.size) (by (repeat (with_reducible refine below_set ?_ (by omega) _)); exact Below.refl _ _) hg
        have T5 : Hid (Turn w.heap.size g w (w4.setCell ⟨w1.heap.size, 3, none⟩ (.int .i64 y))) := T4.out.step (C := w.heap.size) (by (repeat (with_reducible refine below_set ?_ (by omega) _)); exact Below.refl _ _) (Nat.le_refl _)
        have z5 : w4.heap.size ≤ (w4.setCell ⟨w1.heap.size, 3, none⟩ (.int .i64 y)).heap.size := by simp
        clear zx zf X4 R4 D4 S4 B4 C4 T4
        generalize (w4.setCell ⟨w1.heap.size, 3, none⟩ (.int .i64 y)) = w5 at *
        have rl := R5.out.lt
        have x0 := (X5.out.2 0 _ rfl).1; have r0 := (R5.out.2 0 _ rfl).1; have f0 := (R5.out.2 0 _ rfl).2
        have x1 := (X5.out.2 1 _ rfl).1; have r1 := (R5.out.2 1 _ rfl).1; have f1 := (R5.out.2 1 _ rfl).2
        have x2 := (X5.out.2 2 _ rfl).1; have r2 := (R5.out.2 2 _ rfl).1; have f2 := (R5.out.2 2 _ rfl).2
        have x3 := (X5.out.2 3 _ rfl).1; have r3 := (R5.out.2 3 _ rfl).1; have f3 := (R5.out.2 3 _ rfl).2
        have x4 := (X5.out.2 4 _ rfl).1; have r4 := (R5.out.2 4 _ rfl).1; have f4 := (R5.out.2 4 _ rfl).2
        have x5 := (X5.out.2 5 _ rfl).1; have r5 := (R5.out.2 5 _ rfl).1; have f5 := (R5.out.2 5 _ rfl).2
        go_wp2
        refine bodyPost_ret (v := .agg #[.slice A n c, .int .i64 p, .slice A' n' c', .int .i64 y, .slice A2 n2 c2, .int .i64 z]) (by simp [results, Try.results35, go_sem, x0, r0, f0, x1, r1, f1, x2, r2, f2, x3, r3, f3, x4, r4, f4, x5, r5, f5]) rfl ?_
        refine ⟨A, n, c, A', n', c', A2, n2, c2, D, S, R, p, y, z, M, rfl, ⟨hc, hc'⟩, ⟨by omega, by omega, by omega⟩, by omega, by omega, by omega, by omega, ?_, ?_, ?_, ?_, ?_, ?_⟩
        · simp only [World.size_setCell]; omega
        · refine Ints.more (lo := w0.heap.size) (hi := M) ?_ (by omega) (Nat.le_refl _)
          (repeat (with_reducible refine Ints.set_ ?_ (by omega) _))
          exact D5.out
        · refine Ints.more (lo := w0.heap.size) (hi := M) ?_ (by omega) (Nat.le_refl _)
          (repeat (with_reducible refine Ints.set_ ?_ (by omega) _))
          exact S5.out
        · simp only [World.size_setCell]
          refine RowI.more (lo := M) (hi := w1.heap.size) ?_ (Nat.le_refl _) (by omega)
          (repeat (with_reducible refine RowI.set_ ?_ (by omega) _))
          exact B5.out
        · refine Ch.more (Ch.below C5.out (B := w.heap.size) ?_ hg) (by omega)
          (repeat (with_reducible refine below_set ?_ (by omega) _))
          exact Below.refl _ _
        · refine T5.out.step (C := w.heap.size) ?_ (Nat.le_refl _)
          (repeat (with_reducible refine below_set ?_ (by omega) _))
          exact Below.refl _ _
      · have e2 : (t == 2) = false := by simp [h2]
        by_cases h3 : t = 3
        · subst h3
          have zx := (X3.out.2 1 _ rfl).1; have zf := (X3.out.2 1 _ rfl).2
          go_upto_region 11 with (fail)
          have X5 : Hid (Box (w3.setCell ⟨w1.heap.size, 1, none⟩ (.int .i64 (p + 1))) w1.heap.size [.slice A n c, .int .i64 (p + 1), .slice A' n' c', .int .i64 q, .slice A2 n2 c2, .int .i64 z]) := by show Box _ _ _; have hx := X3.out.put (i := 1) (by simp) (.int .i64 (p + 1)); simpa using hx
          have R5 := Lib.hid (R3.out.set_ (b' := w1.heap.size) (o := 1) (by omega) (.int .i64 (p + 1))); have D5 := Lib.hid (D3.out.set_ (b := w1.heap.size) (o := 1) (by omega) (.int .i64 (p + 1))); have S5 := Lib.hid (S3.out.set_ (b := w1.heap.size) (o := 1) (by omega) (.int .i64 (p + 1))); have B5 := Lib.hid (B3.out.set_ (b := w1.heap.size) (o := 1) (by omega) (.int .i64 (p + 1)))
          have C5 : Hid (Ch (w3.setCell ⟨w1.heap.size, 1, none⟩ (.int .i64 (p + 1))) g _) := C3.out.below (B := w.heap.size) (by (repeat (with_reducible refine below_set ?_ (by omega) _)); exact Below.refl _ _) hg
          have T5 : Hid (Turn w.heap.size g w (w3.setCell ⟨w1.heap.size, 1, none⟩ (.int .i64 (p + 1)))) := T3.out.step (C := w.heap.size) (by (repeat (with_reducible refine below_set ?_ (by omega) _)); exact Below.refl _ _) (Nat.le_refl _)
          have z5 : w3.heap.size ≤ (w3.setCell ⟨w1.heap.size, 1, none⟩ (.int .i64 (p + 1))).heap.size := by simp
          clear zx zf X3 R3 D3 S3 B3 C3 T3
          generalize (w3.setCell ⟨w1.heap.size, 1, none⟩ (.int .i64 (p + 1))) = w5 at *
          have rl := R5.out.lt
          have x0 := (X5.out.2 0 _ rfl).1; have r0 := (R5.out.2 0 _ rfl).1; have f0 := (R5.out.2 0 _ rfl).2
          have x1 := (X5.out.2 1 _ rfl).1; have r1 := (R5.out.2 1 _ rfl).1; have f1 := (R5.out.2 1 _ rfl).2
          have x2 := (X5.out.2 2 _ rfl).1; have r2 := (R5.out.2 2 _ rfl).1; have f2 := (R5.out.2 2 _ rfl).2
          have x3 := (X5.out.2 3 _ rfl).1; have r3 := (R5.out.2 3 _ rfl).1; have f3 := (R5.out.2 3 _ rfl).2
          have x4 := (X5.out.2 4 _ rfl).1; have r4 := (R5.out.2 4 _ rfl).1; have f4 := (R5.out.2 4 _ rfl).2
          have x5 := (X5.out.2 5 _ rfl).1; have r5 := (R5.out.2 5 _ rfl).1; have f5 := (R5.out.2 5 _ rfl).2
          go_wp2
          refine bodyPost_ret (v := .agg #[.slice A n c, .int .i64 (p + 1), .slice A' n' c', .int .i64 q, .slice A2 n2 c2, .int .i64 z]) (by simp [results, Try.results35, go_sem, x0, r0, f0, x1, r1, f1, x2, r2, f2, x3, r3, f3, x4, r4, f4, x5, r5, f5]) rfl ?_
          refine ⟨A, n, c, A', n', c', A2, n2, c2, D, S, R, (p + 1), q, z, M, rfl, ⟨hc, hc'⟩, ⟨by omega, by omega, by omega⟩, by omega, by omega, by omega, by omega, ?_, ?_, ?_, ?_, ?_, ?_⟩
          · simp only [World.size_setCell]; omega
          · refine Ints.more (lo := w0.heap.size) (hi := M) ?_ (by omega) (Nat.le_refl _)
            (repeat (with_reducible refine Ints.set_ ?_ (by omega) _))
            exact D5.out
          · refine Ints.more (lo := w0.heap.size) (hi := M) ?_ (by omega) (Nat.le_refl _)
            (repeat (with_reducible refine Ints.set_ ?_ (by omega) _))
            exact S5.out
          · simp only [World.size_setCell]
            refine RowI.more (lo := M) (hi := w1.heap.size) ?_ (Nat.le_refl _) (by omega)
            (repeat (with_reducible refine RowI.set_ ?_ (by omega) _))
            exact B5.out
          · refine Ch.more (Ch.below C5.out (B := w.heap.size) ?_ hg) (by omega)
            (repeat (with_reducible refine below_set ?_ (by omega) _))
            exact Below.refl _ _
          · refine T5.out.step (C := w.heap.size) ?_ (Nat.le_refl _)
            (repeat (with_reducible refine below_set ?_ (by omega) _))
            exact Below.refl _ _
        · have e3 : (t == 3) = false := by simp [h3]
          have rl := R3.out.lt
          have x0 := (X3.out.2 0 _ rfl).1; have r0 := (R3.out.2 0 _ rfl).1; have f0 := (R3.out.2 0 _ rfl).2
          have x1 := (X3.out.2 1 _ rfl).1; have r1 := (R3.out.2 1 _ rfl).1; have f1 := (R3.out.2 1 _ rfl).2
          have x2 := (X3.out.2 2 _ rfl).1; have r2 := (R3.out.2 2 _ rfl).1; have f2 := (R3.out.2 2 _ rfl).2
          have x3 := (X3.out.2 3 _ rfl).1; have r3 := (R3.out.2 3 _ rfl).1; have f3 := (R3.out.2 3 _ rfl).2
          have x4 := (X3.out.2 4 _ rfl).1; have r4 := (R3.out.2 4 _ rfl).1; have f4 := (R3.out.2 4 _ rfl).2
          have x5 := (X3.out.2 5 _ rfl).1; have r5 := (R3.out.2 5 _ rfl).1; have f5 := (R3.out.2 5 _ rfl).2
          go_wp2
          refine bodyPost_ret (v := .agg #[.slice A n c, .int .i64 p, .slice A' n' c', .int .i64 q, .slice A2 n2 c2, .int .i64 z]) (by simp [results, Try.results35, go_sem, x0, r0, f0, x1, r1, f1, x2, r2, f2, x3, r3, f3, x4, r4, f4, x5, r5, f5]) rfl ?_
          refine ⟨A, n, c, A', n', c', A2, n2, c2, D, S, R, p, q, z, M, rfl, ⟨hc, hc'⟩, ⟨by omega, by omega, by omega⟩, by omega, by omega, by omega, by omega, ?_, ?_, ?_, ?_, ?_, ?_⟩
          · simp only [World.size_setCell]; omega
          · refine Ints.more (lo := w0.heap.size) (hi := M) ?_ (by omega) (Nat.le_refl _)
            (repeat (with_reducible refine Ints.set_ ?_ (by omega) _))
            exact D3.out
          · refine Ints.more (lo := w0.heap.size) (hi := M) ?_ (by omega) (Nat.le_refl _)
            (repeat (with_reducible refine Ints.set_ ?_ (by omega) _))
            exact S3.out
          · simp only [World.size_setCell]
            refine RowI.more (lo := M) (hi := w1.heap.size) ?_ (Nat.le_refl _) (by omega)
            (repeat (with_reducible refine RowI.set_ ?_ (by omega) _))
            exact B3.out
          · refine Ch.more (Ch.below C3.out (B := w.heap.size) ?_ hg) (by omega)
            (repeat (with_reducible refine below_set ?_ (by omega) _))
            exact Below.refl _ _
          · refine T3.out.step (C := w.heap.size) ?_ (Nat.le_refl _)
            (repeat (with_reducible refine below_set ?_ (by omega) _))
            exact Below.refl _ _
/-- A reader in new memory, drawn. -/
def RdrX (w w' : World) (A : Option Addr) (n c : Nat) (A' : Option Addr) (n' c' : Nat) (A2 : Option Addr) (n2 c2 : Nat) (D S R : List Int) (p q z : Int) : Prop :=
  (n ≤ c ∧ n' ≤ c' ∧ n2 ≤ c2) ∧ (n ≤ 61 ∧ n' ≤ 7 ∧ n2 ≤ 61) ∧ (-1 ≤ p ∧ p ≤ 61) ∧ (-1 ≤ q ∧ q ≤ 1001) ∧ (0 ≤ z ∧ z ≤ 17) ∧ Below w.heap.size w w' ∧ Ints w' w.heap.size w'.heap.size A n D ∧ Ints w' w.heap.size w'.heap.size A' n' S ∧ Ints w' w.heap.size w'.heap.size A2 n2 R
def DrawnR (w : World) (e : Ending) (w' : World) : Prop := ∃ A n c A' n' c' A2 n2 c2 D S R p q z, e = .returned (.agg #[.slice (A) n c, .int .i64 (p), .slice (A') n' c', .int .i64 (q), .slice (A2) n2 c2, .int .i64 (z)]) ∧ RdrX w w' A n c A' n' c' A2 n2 c2 D S R p q z
def DrawnRI (w : World) (e : Ending) (w' : World) : Prop := ∃ A n c A' n' c' A2 n2 c2 D S R p q z y, e = .returned (.tuple #[.agg #[.slice (A) n c, .int .i64 (p), .slice (A') n' c', .int .i64 (q), .slice (A2) n2 c2, .int .i64 (z)], .int .i64 y]) ∧ RdrX w w' A n c A' n' c' A2 n2 c2 D S R p q z ∧ (-1 ≤ y ∧ y ≤ 61)
def DrawnRII (w : World) (e : Ending) (w' : World) : Prop := ∃ A n c A' n' c' A2 n2 c2 D S R p q z y x, e = .returned (.tuple #[.agg #[.slice (A) n c, .int .i64 (p), .slice (A') n' c', .int .i64 (q), .slice (A2) n2 c2, .int .i64 (z)], .int .i64 y, .int .i64 x]) ∧ RdrX w w' A n c A' n' c' A2 n2 c2 D S R p q z ∧ (-61 ≤ y ∧ y ≤ 256) ∧ (-1 ≤ x ∧ x ≤ 61)
theorem BytesIn.allocR {w : World} {A : Option Addr} {n : Nat} (h : BytesIn w w.heap.size A n) (o : Obj) : BytesIn (w.alloc o) (w.alloc o).heap.size A n := fun hn => by
  obtain ⟨b, f, e, hb, hc⟩ := (h.keep (w' := w.alloc o) fun b hb => Below.heap_alloc w o b hb) hn
  exact ⟨b, f, e, by simp; omega, hc⟩
set_option maxHeartbeats 4000000 in
theorem DrawReadSome_any {A : Option Addr} {n c : Nat} {w : World} (h : BytesIn w w.heap.size A n) (hn : n ≤ 1048576) (hnc : n ≤ c) : Calls Try.prog 9 #[.slice A n c] w (DrawnRI w) := by
  have R0 := Lib.hid (Box.new w 27 [.slice none 0 0, .int .i64 0, .slice none 0 0, .int .i64 0, .slice none 0 0, .int .i64 0])
  go_enter Try.func9, Try.ntmps9
  go_wp2_with fail
  refine (newChooser_any (h.allocR _) hn hnc).mono ?_
  rintro e w1 ⟨rfl, hch, hb⟩
  (try simp only [World.size_alloc, World.size_setCell, World.size_drew] at hch hb)
  have HC := Lib.hid hch
  have hg := hch.lt
  have HB : Hid (Below w.heap.size w w1) := below_step hb (by go_grown) (by omega)
  have R1 := Lib.hid (R0.out.below hb (by omega))
  have z1 := HB.out.size
  clear hch hb R0
  go_wp2_with fail
  refine (someReader_any HC.out (by omega)).mono ?_
  rintro e w2 ⟨A, n, c, A', n', c', A2, n2, c2, D, S, R, p, q, z, M, rfl, ⟨hc, hc'⟩, ⟨hn, hn', hn2⟩, hp, hq, hz, hM0, hM1, hD, hS, hB, hch, ht⟩
  have s2 := ht.size
  have D2 := Lib.hid hD; have S2 := Lib.hid hS; have B2 := Lib.hid hB; have C2 := Lib.hid hch
  have R2 := Lib.hid (R1.out.turn ht (by omega) (by omega)); have E2 : Hid (Below w.heap.size w w2) := HB.out.trans (ht.below (by omega) (by omega))
  clear hD hS hB hch ht HC R1 HB
  go_wp2_with fail
  refine (aCount_any C2.out (by omega)).mono ?_
  rintro e w3 ⟨y, hy, rfl, hch, ht⟩
  have hy2 : -1 ≤ y ∧ y ≤ 61 := by simp at hy; omega
  have D3 := Lib.hid (D2.out.turn ht (by omega) (by omega)); have S3 := Lib.hid (S2.out.turn ht (by omega) (by omega)); have B3 := Lib.hid (B2.out.turn ht (by omega) (by omega)); have R3 := Lib.hid (R2.out.turn ht (by omega) (by omega)); have E3 : Hid (Below w.heap.size w w3) := E2.out.trans (ht.below (by omega) (by omega)); have s3 := ht.size; have C3 := Lib.hid hch
  clear D2 S2 B2 R2 E2 C2 hch ht
  have r0 := (R3.out.2 0 _ rfl).1; have r1 := (R3.out.2 1 _ rfl).1; have r2 := (R3.out.2 2 _ rfl).1; have r3 := (R3.out.2 3 _ rfl).1; have r4 := (R3.out.2 4 _ rfl).1; have r5 := (R3.out.2 5 _ rfl).1
  have g0 := (R3.out.2 0 _ rfl).2; have g1 := (R3.out.2 1 _ rfl).2; have g2 := (R3.out.2 2 _ rfl).2; have g3 := (R3.out.2 3 _ rfl).2; have g4 := (R3.out.2 4 _ rfl).2; have g5 := (R3.out.2 5 _ rfl).2
  go_wp2
  refine bodyPost_ret (v := .tuple #[.agg #[.slice (A) n c, .int .i64 (p), .slice (A') n' c', .int .i64 (q), .slice (A2) n2 c2, .int .i64 (z)], .int .i64 y]) (by simp [results, Try.results9, go_sem, r0, r1, r2, r3, r4, r5, g0, g1, g2, g3, g4, g5]) rfl ?_
  refine ⟨A, n, c, A', n', c', A2, n2, c2, D, S, R, p, q, z, y, rfl, ⟨⟨hc, hc', B3.out.cap⟩, ⟨hn, hn', hn2⟩, hp, hq, hz, ?_, ?_, ?_, ?_⟩, hy2⟩
  · (repeat (with_reducible refine below_set ?_ (by omega) _))
    exact E3.out
  · simp only [World.size_setCell]
    refine Ints.more (lo := w1.heap.size) (hi := M) ?_ (by omega) (by omega)
    (repeat (with_reducible refine Ints.set_ ?_ (by omega) _))
    exact D3.out
  · simp only [World.size_setCell]
    refine Ints.more (lo := w1.heap.size) (hi := M) ?_ (by omega) (by omega)
    (repeat (with_reducible refine Ints.set_ ?_ (by omega) _))
    exact S3.out
  · simp only [World.size_setCell]
    refine Ints.more (lo := M) (hi := w2.heap.size) ?_ (by omega) (by omega)
    (repeat (with_reducible refine Ints.set_ ?_ (by omega) _))
    exact B3.out.ints
set_option maxHeartbeats 4000000 in
theorem DrawReadFull_any {A : Option Addr} {n c : Nat} {w : World} (h : BytesIn w w.heap.size A n) (hn : n ≤ 1048576) (hnc : n ≤ c) : Calls Try.prog 17 #[.slice A n c] w (DrawnRI w) := by
  have R0 := Lib.hid (Box.new w 27 [.slice none 0 0, .int .i64 0, .slice none 0 0, .int .i64 0, .slice none 0 0, .int .i64 0])
  go_enter Try.func17, Try.ntmps17
  go_wp2_with fail
  refine (newChooser_any (h.allocR _) hn hnc).mono ?_
  rintro e w1 ⟨rfl, hch, hb⟩
  (try simp only [World.size_alloc, World.size_setCell, World.size_drew] at hch hb)
  have HC := Lib.hid hch
  have hg := hch.lt
  have HB : Hid (Below w.heap.size w w1) := below_step hb (by go_grown) (by omega)
  have R1 := Lib.hid (R0.out.below hb (by omega))
  have z1 := HB.out.size
  clear hch hb R0
  go_wp2_with fail
  refine (someReader_any HC.out (by omega)).mono ?_
  rintro e w2 ⟨A, n, c, A', n', c', A2, n2, c2, D, S, R, p, q, z, M, rfl, ⟨hc, hc'⟩, ⟨hn, hn', hn2⟩, hp, hq, hz, hM0, hM1, hD, hS, hB, hch, ht⟩
  have s2 := ht.size
  have D2 := Lib.hid hD; have S2 := Lib.hid hS; have B2 := Lib.hid hB; have C2 := Lib.hid hch
  have R2 := Lib.hid (R1.out.turn ht (by omega) (by omega)); have E2 : Hid (Below w.heap.size w w2) := HB.out.trans (ht.below (by omega) (by omega))
  clear hD hS hB hch ht HC R1 HB
  go_wp2_with fail
  refine (aCount_any C2.out (by omega)).mono ?_
  rintro e w3 ⟨y, hy, rfl, hch, ht⟩
  have hy2 : -1 ≤ y ∧ y ≤ 61 := by simp at hy; omega
  have D3 := Lib.hid (D2.out.turn ht (by omega) (by omega)); have S3 := Lib.hid (S2.out.turn ht (by omega) (by omega)); have B3 := Lib.hid (B2.out.turn ht (by omega) (by omega)); have R3 := Lib.hid (R2.out.turn ht (by omega) (by omega)); have E3 : Hid (Below w.heap.size w w3) := E2.out.trans (ht.below (by omega) (by omega)); have s3 := ht.size; have C3 := Lib.hid hch
  clear D2 S2 B2 R2 E2 C2 hch ht
  have r0 := (R3.out.2 0 _ rfl).1; have r1 := (R3.out.2 1 _ rfl).1; have r2 := (R3.out.2 2 _ rfl).1; have r3 := (R3.out.2 3 _ rfl).1; have r4 := (R3.out.2 4 _ rfl).1; have r5 := (R3.out.2 5 _ rfl).1
  have g0 := (R3.out.2 0 _ rfl).2; have g1 := (R3.out.2 1 _ rfl).2; have g2 := (R3.out.2 2 _ rfl).2; have g3 := (R3.out.2 3 _ rfl).2; have g4 := (R3.out.2 4 _ rfl).2; have g5 := (R3.out.2 5 _ rfl).2
  go_wp2
  refine bodyPost_ret (v := .tuple #[.agg #[.slice (A) n c, .int .i64 (p), .slice (A') n' c', .int .i64 (q), .slice (A2) n2 c2, .int .i64 (z)], .int .i64 y]) (by simp [results, Try.results17, go_sem, r0, r1, r2, r3, r4, r5, g0, g1, g2, g3, g4, g5]) rfl ?_
  refine ⟨A, n, c, A', n', c', A2, n2, c2, D, S, R, p, q, z, y, rfl, ⟨⟨hc, hc', B3.out.cap⟩, ⟨hn, hn', hn2⟩, hp, hq, hz, ?_, ?_, ?_, ?_⟩, hy2⟩
  · (repeat (with_reducible refine below_set ?_ (by omega) _))
    exact E3.out
  · simp only [World.size_setCell]
    refine Ints.more (lo := w1.heap.size) (hi := M) ?_ (by omega) (by omega)
    (repeat (with_reducible refine Ints.set_ ?_ (by omega) _))
    exact D3.out
  · simp only [World.size_setCell]
    refine Ints.more (lo := w1.heap.size) (hi := M) ?_ (by omega) (by omega)
    (repeat (with_reducible refine Ints.set_ ?_ (by omega) _))
    exact S3.out
  · simp only [World.size_setCell]
    refine Ints.more (lo := M) (hi := w2.heap.size) ?_ (by omega) (by omega)
    (repeat (with_reducible refine Ints.set_ ?_ (by omega) _))
    exact B3.out.ints
set_option maxHeartbeats 4000000 in
theorem DrawReadUntil_any {A : Option Addr} {n c : Nat} {w : World} (h : BytesIn w w.heap.size A n) (hn : n ≤ 1048576) (hnc : n ≤ c) : Calls Try.prog 22 #[.slice A n c] w (DrawnRII w) := by
  have R0 := Lib.hid (Box.new w 27 [.slice none 0 0, .int .i64 0, .slice none 0 0, .int .i64 0, .slice none 0 0, .int .i64 0])
  go_enter Try.func22, Try.ntmps22
  go_wp2_with fail
  refine (newChooser_any (h.allocR _) hn hnc).mono ?_
  rintro e w1 ⟨rfl, hch, hb⟩
  (try simp only [World.size_alloc, World.size_setCell, World.size_drew] at hch hb)
  have HC := Lib.hid hch
  have hg := hch.lt
  have HB : Hid (Below w.heap.size w w1) := below_step hb (by go_grown) (by omega)
  have R1 := Lib.hid (R0.out.below hb (by omega))
  have z1 := HB.out.size
  clear hch hb R0
  go_wp2_with fail
  refine (someReader_any HC.out (by omega)).mono ?_
  rintro e w2 ⟨A, n, c, A', n', c', A2, n2, c2, D, S, R, p, q, z, M, rfl, ⟨hc, hc'⟩, ⟨hn, hn', hn2⟩, hp, hq, hz, hM0, hM1, hD, hS, hB, hch, ht⟩
  have s2 := ht.size
  have D2 := Lib.hid hD; have S2 := Lib.hid hS; have B2 := Lib.hid hB; have C2 := Lib.hid hch
  have R2 := Lib.hid (R1.out.turn ht (by omega) (by omega)); have E2 : Hid (Below w.heap.size w w2) := HB.out.trans (ht.below (by omega) (by omega))
  clear hD hS hB hch ht HC R1 HB
  go_wp2_with fail
  refine (one_lit [10, 13, 97, 255, 256, -1, 10] C2.out (by omega) rfl rfl rfl (by decide) (by decide) (by decide)).mono ?_
  rintro e w3 ⟨y, hy, rfl, hch, ht⟩
  have hy2 : -61 ≤ y ∧ y ≤ 256 := by simp at hy; omega
  have D3 := Lib.hid (D2.out.turn ht (by omega) (by omega)); have S3 := Lib.hid (S2.out.turn ht (by omega) (by omega)); have B3 := Lib.hid (B2.out.turn ht (by omega) (by omega)); have R3 := Lib.hid (R2.out.turn ht (by omega) (by omega)); have E3 : Hid (Below w.heap.size w w3) := E2.out.trans (ht.below (by omega) (by omega)); have s3 := ht.size; have C3 := Lib.hid hch
  clear D2 S2 B2 R2 E2 C2 hch ht
  go_wp2_with fail
  refine (aCount_any C3.out (by omega)).mono ?_
  rintro e w4 ⟨x, hx, rfl, hch, ht⟩
  have hx2 : -1 ≤ x ∧ x ≤ 61 := by simp at hx; omega
  have D4 := Lib.hid (D3.out.turn ht (by omega) (by omega)); have S4 := Lib.hid (S3.out.turn ht (by omega) (by omega)); have B4 := Lib.hid (B3.out.turn ht (by omega) (by omega)); have R4 := Lib.hid (R3.out.turn ht (by omega) (by omega)); have E4 : Hid (Below w.heap.size w w4) := E3.out.trans (ht.below (by omega) (by omega)); have s4 := ht.size; have C4 := Lib.hid hch
  clear D3 S3 B3 R3 E3 C3 hch ht
  have r0 := (R4.out.2 0 _ rfl).1; have r1 := (R4.out.2 1 _ rfl).1; have r2 := (R4.out.2 2 _ rfl).1; have r3 := (R4.out.2 3 _ rfl).1; have r4 := (R4.out.2 4 _ rfl).1; have r5 := (R4.out.2 5 _ rfl).1
  have g0 := (R4.out.2 0 _ rfl).2; have g1 := (R4.out.2 1 _ rfl).2; have g2 := (R4.out.2 2 _ rfl).2; have g3 := (R4.out.2 3 _ rfl).2; have g4 := (R4.out.2 4 _ rfl).2; have g5 := (R4.out.2 5 _ rfl).2
  go_wp2
  refine bodyPost_ret (v := .tuple #[.agg #[.slice (A) n c, .int .i64 (p), .slice (A') n' c', .int .i64 (q), .slice (A2) n2 c2, .int .i64 (z)], .int .i64 y, .int .i64 x]) (by simp [results, Try.results22, go_sem, r0, r1, r2, r3, r4, r5, g0, g1, g2, g3, g4, g5]) rfl ?_
  refine ⟨A, n, c, A', n', c', A2, n2, c2, D, S, R, p, q, z, y, x, rfl, ⟨⟨hc, hc', B4.out.cap⟩, ⟨hn, hn', hn2⟩, hp, hq, hz, ?_, ?_, ?_, ?_⟩, hy2, hx2⟩
  · (repeat (with_reducible refine below_set ?_ (by omega) _))
    exact E4.out
  · simp only [World.size_setCell]
    refine Ints.more (lo := w1.heap.size) (hi := M) ?_ (by omega) (by omega)
    (repeat (with_reducible refine Ints.set_ ?_ (by omega) _))
    exact D4.out
  · simp only [World.size_setCell]
    refine Ints.more (lo := w1.heap.size) (hi := M) ?_ (by omega) (by omega)
    (repeat (with_reducible refine Ints.set_ ?_ (by omega) _))
    exact S4.out
  · simp only [World.size_setCell]
    refine Ints.more (lo := M) (hi := w2.heap.size) ?_ (by omega) (by omega)
    (repeat (with_reducible refine Ints.set_ ?_ (by omega) _))
    exact B4.out.ints
set_option maxHeartbeats 4000000 in
theorem DrawSeekReader_any {A : Option Addr} {n c : Nat} {w : World} (h : BytesIn w w.heap.size A n) (hn : n ≤ 1048576) (hnc : n ≤ c) : Calls Try.prog 25 #[.slice A n c] w (DrawnRII w) := by
  have R0 := Lib.hid (Box.new w 27 [.slice none 0 0, .int .i64 0, .slice none 0 0, .int .i64 0, .slice none 0 0, .int .i64 0])
  go_enter Try.func25, Try.ntmps25
  go_wp2_with fail
  refine (newChooser_any (h.allocR _) hn hnc).mono ?_
  rintro e w1 ⟨rfl, hch, hb⟩
  (try simp only [World.size_alloc, World.size_setCell, World.size_drew] at hch hb)
  have HC := Lib.hid hch
  have hg := hch.lt
  have HB : Hid (Below w.heap.size w w1) := below_step hb (by go_grown) (by omega)
  have R1 := Lib.hid (R0.out.below hb (by omega))
  have z1 := HB.out.size
  clear hch hb R0
  go_wp2_with fail
  refine (someReader_any HC.out (by omega)).mono ?_
  rintro e w2 ⟨A, n, c, A', n', c', A2, n2, c2, D, S, R, p, q, z, M, rfl, ⟨hc, hc'⟩, ⟨hn, hn', hn2⟩, hp, hq, hz, hM0, hM1, hD, hS, hB, hch, ht⟩
  have s2 := ht.size
  have D2 := Lib.hid hD; have S2 := Lib.hid hS; have B2 := Lib.hid hB; have C2 := Lib.hid hch
  have R2 := Lib.hid (R1.out.turn ht (by omega) (by omega)); have E2 : Hid (Below w.heap.size w w2) := HB.out.trans (ht.below (by omega) (by omega))
  clear hD hS hB hch ht HC R1 HB
  have X2 := Lib.hid (Box.new w2 27 [.slice (A) n c, .int .i64 (p), .slice (A') n' c', .int .i64 (q), .slice (A2) n2 c2, .int .i64 (z)])
  replace D2 := Lib.hid (D2.out.alloc hM1 (.cells #[.slice (A) n c, .int .i64 (p), .slice (A') n' c', .int .i64 (q), .slice (A2) n2 c2, .int .i64 (z)] 27))
  replace S2 := Lib.hid (S2.out.alloc hM1 (.cells #[.slice (A) n c, .int .i64 (p), .slice (A') n' c', .int .i64 (q), .slice (A2) n2 c2, .int .i64 (z)] 27))
  replace B2 := Lib.hid (B2.out.alloc (Nat.le_refl _) (.cells #[.slice (A) n c, .int .i64 (p), .slice (A') n' c', .int .i64 (q), .slice (A2) n2 c2, .int .i64 (z)] 27))
  replace C2 := Lib.hid (Ch.alloc C2.out (.cells #[.slice (A) n c, .int .i64 (p), .slice (A') n' c', .int .i64 (q), .slice (A2) n2 c2, .int .i64 (z)] 27))
  replace R2 := Lib.hid (R2.out.alloc (.cells #[.slice (A) n c, .int .i64 (p), .slice (A') n' c', .int .i64 (q), .slice (A2) n2 c2, .int .i64 (z)] 27))
  replace E2 : Hid (Below w.heap.size w (w2.alloc (.cells #[.slice (A) n c, .int .i64 (p), .slice (A') n' c', .int .i64 (q), .slice (A2) n2 c2, .int .i64 (z)] 27))) := E2.out.trans (Below.alloc (Below.refl _ w2) (by omega) (.cells #[.slice (A) n c, .int .i64 (p), .slice (A') n' c', .int .i64 (q), .slice (A2) n2 c2, .int .i64 (z)] 27))
  have s2b : w2.heap.size + 1 ≤ (w2.alloc (.cells #[.slice (A) n c, .int .i64 (p), .slice (A') n' c', .int .i64 (q), .slice (A2) n2 c2, .int .i64 (z)] 27)).heap.size := by simp
  go_wp2_with fail
  generalize w2.alloc (.cells #[.slice (A) n c, .int .i64 (p), .slice (A') n' c', .int .i64 (q), .slice (A2) n2 c2, .int .i64 (z)] 27) = wb at *
  refine (aSeek_any C2.out (by omega)).mono ?_
  rintro e w3 ⟨y, x, rfl, hy, hx, hch, ht⟩
  have hy2 : -61 ≤ y ∧ y ≤ 256 := by omega
  have hx2 : -1 ≤ x ∧ x ≤ 61 := by omega
  clear hy hx
  have D3 := Lib.hid (D2.out.turn ht (by omega) (by omega)); have S3 := Lib.hid (S2.out.turn ht (by omega) (by omega)); have B3 := Lib.hid (B2.out.turn ht (by omega) (by omega)); have R3 := Lib.hid (R2.out.turn ht (by omega) (by omega)); have E3 : Hid (Below w.heap.size w w3) := E2.out.trans (ht.below (by omega) (by omega)); have s3 := ht.size; have C3 := Lib.hid hch
  have X3 := Lib.hid (X2.out.turn ht (by omega) (by omega))
  clear D2 S2 B2 R2 E2 C2 hch ht
  have x0 := (X3.out.2 0 _ rfl).1; have x1 := (X3.out.2 1 _ rfl).1; have x2 := (X3.out.2 2 _ rfl).1; have x3 := (X3.out.2 3 _ rfl).1; have x4 := (X3.out.2 4 _ rfl).1; have x5 := (X3.out.2 5 _ rfl).1
  have r0 := (R3.out.2 0 _ rfl).1; have r1 := (R3.out.2 1 _ rfl).1; have r2 := (R3.out.2 2 _ rfl).1; have r3 := (R3.out.2 3 _ rfl).1; have r4 := (R3.out.2 4 _ rfl).1; have r5 := (R3.out.2 5 _ rfl).1
  have g0 := (R3.out.2 0 _ rfl).2; have g1 := (R3.out.2 1 _ rfl).2; have g2 := (R3.out.2 2 _ rfl).2; have g3 := (R3.out.2 3 _ rfl).2; have g4 := (R3.out.2 4 _ rfl).2; have g5 := (R3.out.2 5 _ rfl).2
  go_wp2
  refine bodyPost_ret (v := .tuple #[.agg #[.slice (A) n c, .int .i64 (p), .slice (A') n' c', .int .i64 (q), .slice (A2) n2 c2, .int .i64 (z)], .int .i64 y, .int .i64 x]) (by simp [results, Try.results25, go_sem, r0, r1, r2, r3, r4, r5, g0, g1, g2, g3, g4, g5]) rfl ?_
  refine ⟨A, n, c, A', n', c', A2, n2, c2, D, S, R, p, q, z, y, x, rfl, ⟨⟨hc, hc', B3.out.cap⟩, ⟨hn, hn', hn2⟩, hp, hq, hz, ?_, ?_, ?_, ?_⟩, hy2, hx2⟩
  · (repeat (with_reducible refine below_set ?_ (by omega) _))
    exact E3.out
  · simp only [World.size_setCell]
    refine Ints.more (lo := w1.heap.size) (hi := M) ?_ (by omega) (by omega)
    (repeat (with_reducible refine Ints.set_ ?_ (by omega) _))
    exact D3.out
  · simp only [World.size_setCell]
    refine Ints.more (lo := w1.heap.size) (hi := M) ?_ (by omega) (by omega)
    (repeat (with_reducible refine Ints.set_ ?_ (by omega) _))
    exact S3.out
  · simp only [World.size_setCell]
    refine Ints.more (lo := M) (hi := w2.heap.size) ?_ (by omega) (by omega)
    (repeat (with_reducible refine Ints.set_ ?_ (by omega) _))
    exact B3.out.ints
end Go.Proofs.Ytmjmplfhedknhaa
