/- Taking bytes with a flush behind each one that is e: what a writer is then. -/
import Derived.Test.YtdiebkaedjlckaaDoorW0
import Derived.Test.YtdiebkaedjlckaaDoorW9
import Derived.BigQuiet
import Derived.Deep.DeepCutAuto
namespace Go.Proofs.YtdiebkaedjlckaaDoor
section
set_option linter.unusedSimpArgs false
set_option linter.unusedVariables false

/-- What a writer is after these bytes were taken, with a flush behind each that is e, and how many were. -/
def tkAll (S : List Int) (z : Nat) (e : Int) : List Int → List Int → Int → Nat → List Int → Fv × Nat
  | [], D, p, q, R => (⟨D, p, q, R, 0⟩, 0)
  | x :: xs, D, p, q, R => if (tkStep S z D p q R).r.length = z then (tkStep S z D p q R, 0) else
      if x = e then
        (if (fuGo S ((tkStep S z D p q R).r ++ [x]).length (tkStep S z D p q R).d (tkStep S z D p q R).p (tkStep S z D p q R).q ((tkStep S z D p q R).r ++ [x])).st = 0 then
          ((tkAll S z e xs (fuGo S ((tkStep S z D p q R).r ++ [x]).length (tkStep S z D p q R).d (tkStep S z D p q R).p (tkStep S z D p q R).q ((tkStep S z D p q R).r ++ [x])).d (fuGo S ((tkStep S z D p q R).r ++ [x]).length (tkStep S z D p q R).d (tkStep S z D p q R).p (tkStep S z D p q R).q ((tkStep S z D p q R).r ++ [x])).p (fuGo S ((tkStep S z D p q R).r ++ [x]).length (tkStep S z D p q R).d (tkStep S z D p q R).p (tkStep S z D p q R).q ((tkStep S z D p q R).r ++ [x])).q (fuGo S ((tkStep S z D p q R).r ++ [x]).length (tkStep S z D p q R).d (tkStep S z D p q R).p (tkStep S z D p q R).q ((tkStep S z D p q R).r ++ [x])).r).1,
           (tkAll S z e xs (fuGo S ((tkStep S z D p q R).r ++ [x]).length (tkStep S z D p q R).d (tkStep S z D p q R).p (tkStep S z D p q R).q ((tkStep S z D p q R).r ++ [x])).d (fuGo S ((tkStep S z D p q R).r ++ [x]).length (tkStep S z D p q R).d (tkStep S z D p q R).p (tkStep S z D p q R).q ((tkStep S z D p q R).r ++ [x])).p (fuGo S ((tkStep S z D p q R).r ++ [x]).length (tkStep S z D p q R).d (tkStep S z D p q R).p (tkStep S z D p q R).q ((tkStep S z D p q R).r ++ [x])).q (fuGo S ((tkStep S z D p q R).r ++ [x]).length (tkStep S z D p q R).d (tkStep S z D p q R).p (tkStep S z D p q R).q ((tkStep S z D p q R).r ++ [x])).r).2 + 1)
        else (fuGo S ((tkStep S z D p q R).r ++ [x]).length (tkStep S z D p q R).d (tkStep S z D p q R).p (tkStep S z D p q R).q ((tkStep S z D p q R).r ++ [x]), 1))
      else ((tkAll S z e xs (tkStep S z D p q R).d (tkStep S z D p q R).p (tkStep S z D p q R).q ((tkStep S z D p q R).r ++ [x])).1,
       (tkAll S z e xs (tkStep S z D p q R).d (tkStep S z D p q R).p (tkStep S z D p q R).q ((tkStep S z D p q R).r ++ [x])).2 + 1)
theorem tkAll_no {S : List Int} {z : Nat} {e : Int} : ∀ (L D : List Int) (p : Int) (q : Nat) (R : List Int), ¬ e ∈ L → tkAll S z e L D p q R = tkGo S z L D p q R := by
  intro L
  induction L with
  | nil => intros; rfl
  | cons x xs ih =>
    intro D p q R h
    have h1 : ¬ x = e := fun he => h (by simp [he])
    have h2 : ¬ e ∈ xs := fun he => h (by simp [he])
    simp only [tkAll, tkGo, if_neg h1, ih _ _ _ _ h2]
/-- The flush behind a byte: what a writer may take then. -/
theorem TkOk.flush {S : List Int} {z b rem : Nat} {D : List Int} {p : Int} {q : Nat} {R : List Int} (h : TkOk S z b rem D p q R) (hz : 1 ≤ z ∧ z ≤ 16) (hb : 12 + z + rem + 1 ≤ b) (hb9 : b ≤ 980) :
    validD (fuGo S R.length D p q R).d (fuGo S R.length D p q R).p S ((fuGo S R.length D p q R).q : Int) = true ∧ allB (fuGo S R.length D p q R).r 0 255 = true ∧ (fuGo S R.length D p q R).r.length ≤ z ∧ (fuGo S R.length D p q R).q ≤ b + 2 ∧ (0 ≤ (fuGo S R.length D p q R).st ∧ (fuGo S R.length D p q R).st ≤ 4) ∧
    ((fuGo S R.length D p q R).st = 0 → TkOk S z b rem (fuGo S R.length D p q R).d (fuGo S R.length D p q R).p (fuGo S R.length D p q R).q (fuGo S R.length D p q R).r) := by
  obtain ⟨hv, hR, hl, h1, h2⟩ := h
  by_cases hq : q + R.length + rem ≤ b
  · obtain ⟨g1, g2, g3, g4, g5, g6, g7, g8⟩ := fuGo_pot (S := S) R.length D p q R (b - rem) hv hR (Nat.le_refl _) (by omega) (by omega) (by omega)
    exact ⟨g1, g2, by omega, by omega, g7, fun h0 => ⟨g1, g2, by omega, by omega, by rcases g5 with g | g; (exact .inl (by omega)); (exact .inr g)⟩⟩
  · have hp : p = 60 := by rcases h2 with h | h; (exact absurd h hq); exact h
    obtain ⟨g1, g2, g3, g4, g5, g6, g7, g8⟩ := fuGo_pot (S := S) R.length D p q R (b + 1 - rem) hv hR (Nat.le_refl _) (by omega) (by omega) (by omega)
    have hr := g6 hp
    refine ⟨g1, g2, by omega, by omega, g7, fun h0 => ?_⟩
    have hr0 := g8 h0
    rw [hr0] at hr
    subst hr
    rw [List.length_nil, fuGo_nil] at *
    exact ⟨hv, hR, by simp, by simpa using h1, .inr hp⟩
/-- One byte more. -/
theorem tkAll_at {S L D R : List Int} {z j q N : Nat} {x p e : Int} {F T : Fv} (hx : L[j]? = some x) (hT : tkStep S z D p q R = T) (h : (tkAll S z e (L.drop j) D p q R).1 = F ∧ (tkAll S z e (L.drop j) D p q R).2 + j = N) :
    (T.r.length = z → F = T ∧ N = j) ∧
    (¬ T.r.length = z → ¬ x = e → (tkAll S z e (L.drop (j + 1)) T.d T.p T.q (T.r ++ [x])).1 = F ∧ (tkAll S z e (L.drop (j + 1)) T.d T.p T.q (T.r ++ [x])).2 + (j + 1) = N) ∧
    (¬ T.r.length = z → x = e → ∀ U, fuGo S (T.r ++ [x]).length T.d T.p T.q (T.r ++ [x]) = U → (U.st = 0 → (tkAll S z e (L.drop (j + 1)) U.d U.p U.q U.r).1 = F ∧ (tkAll S z e (L.drop (j + 1)) U.d U.p U.q U.r).2 + (j + 1) = N) ∧ (¬ U.st = 0 → F = U ∧ N = j + 1)) := by
  subst hT
  obtain ⟨hj, hx2⟩ := List.getElem?_eq_some_iff.1 hx
  have e1 : L.drop j = x :: L.drop (j + 1) := by rw [List.drop_eq_getElem_cons hj, hx2]
  rw [e1] at h
  simp only [tkAll] at h
  refine ⟨fun hz => ?_, fun hz hxe => ?_, fun hz hxe U hU => ?_⟩
  · rw [if_pos hz] at h
    exact ⟨h.1.symm, by have := h.2; simp at this; omega⟩
  · rw [if_neg hz, if_neg hxe] at h
    exact ⟨h.1, by have := h.2; simp at this; omega⟩
  · rw [if_neg hz, if_pos hxe, hU] at h
    refine ⟨fun h0 => ?_, fun h0 => ?_⟩
    · rw [if_pos h0] at h
      exact ⟨h.1, by have := h.2; simp at this; omega⟩
    · rw [if_neg h0] at h
      exact ⟨h.1.symm, by have := h.2; simp at this; omega⟩
theorem tkAll_ok {S : List Int} {z b : Nat} {e : Int} (hz : 1 ≤ z ∧ z ≤ 16) (hb9 : b ≤ 980) : ∀ (L : List Int) (D : List Int) (p : Int) (q : Nat) (R : List Int), TkOk S z b L.length D p q R → 12 + z + L.length ≤ b → allB L 0 255 = true →
    validD (tkAll S z e L D p q R).1.d (tkAll S z e L D p q R).1.p S ((tkAll S z e L D p q R).1.q : Int) = true ∧ allB (tkAll S z e L D p q R).1.r 0 255 = true ∧ (tkAll S z e L D p q R).1.r.length ≤ z ∧ (tkAll S z e L D p q R).1.q ≤ b + 2 ∧ (0 ≤ (tkAll S z e L D p q R).1.st ∧ (tkAll S z e L D p q R).1.st ≤ 4) ∧ (tkAll S z e L D p q R).2 ≤ L.length := by
  intro L
  induction L with
  | nil =>
    intro D p q R h _ _
    obtain ⟨hv, hR, hl, h1, _⟩ := h
    exact ⟨hv, hR, hl, by simp [tkAll] at h1 ⊢; omega, by simp [tkAll], by simp [tkAll]⟩
  | cons x xs ih =>
    intro D p q R h hb hL
    rw [List.length_cons] at h hb
    obtain ⟨g1, g2, g3, g4, g5, g6, g7⟩ := h.step hz hb hb9
    have hx := allB_iff.1 hL x (List.mem_cons_self ..)
    have hxs : allB xs 0 255 = true := allB_iff.2 fun y hy => allB_iff.1 hL y (List.mem_cons_of_mem _ hy)
    simp only [tkAll]
    by_cases hf : (tkStep S z D p q R).r.length = z
    · rw [if_pos hf]
      exact ⟨g1, g2, g3, g4, g5, by simp⟩
    · rw [if_neg hf]
      have hk := g6 hf x hx.1 hx.2
      by_cases hxe : x = e
      · rw [if_pos hxe]
        obtain ⟨f1, f2, f3, f4, f5, f6⟩ := hk.flush hz (by omega) hb9
        by_cases hst : (fuGo S ((tkStep S z D p q R).r ++ [x]).length (tkStep S z D p q R).d (tkStep S z D p q R).p (tkStep S z D p q R).q ((tkStep S z D p q R).r ++ [x])).st = 0
        · rw [if_pos hst]
          obtain ⟨k1, k2, k3, k4, k5, k6⟩ := ih _ _ _ _ (f6 hst) (by omega) hxs
          exact ⟨k1, k2, k3, k4, k5, by rw [List.length_cons]; show _ + 1 ≤ _; omega⟩
        · rw [if_neg hst]
          exact ⟨f1, f2, f3, f4, f5, by simp⟩
      · rw [if_neg hxe]
        obtain ⟨k1, k2, k3, k4, k5, k6⟩ := ih _ _ _ _ hk (by omega) hxs
        exact ⟨k1, k2, k3, k4, k5, by rw [List.length_cons]; show _ + 1 ≤ _; omega⟩
end
section
open Go.ChangeShapes Go.WideShapes Go.ChangeAt Go.RowKit
set_option linter.unusedSimpArgs false
set_option linter.unusedVariables false
set_option maxRecDepth 10000

theorem RowC.of_full {w : World} {lo hi n : Nat} {A : Option Addr} {xs : List Int} (h : Ints w lo hi A n xs) (h0 : n = 0 → A = none) : RowC w lo hi A n n xs := by
  refine ⟨h, Nat.le_refl _, ?_⟩
  by_cases hn : n = 0
  · exact .inl ⟨h0 hn, hn⟩
  · obtain ⟨b, o, e, h1, h2, _⟩ := h.2.2.2 (by omega)
    exact .inr ⟨b, o, e, fun _ => ⟨h1, h2⟩, fun j h3 h4 => absurd h4 (by omega)⟩

set_option maxHeartbeats 1000000 in
theorem copyList_c {A : Option Addr} {n c : Nat} {xs : List Int} {w : World} {L B : Nat} (h : Ints w L B A n xs) (hB : B ≤ w.heap.size) (hn : n ≤ 1048576) :
    Calls Tryd.prog 100 #[.slice A n c] w (fun e w' => ∃ A' n', e = .returned (.slice A' n' n') ∧ (n' = 0 → A' = none) ∧ Below w.heap.size w w' ∧ Ints w' w.heap.size w'.heap.size A' n' xs) := by
  have HL := Lib.hid h.len
  have hok := Lib.hid h.ok
  by_cases h0 : n = 0
  · subst h0
    go_enter Tryd.func100, Tryd.ntmps100
    go_wp2
    go_ret
    have : xs = [] := List.eq_nil_of_length_eq_zero HL.out.symm
    subst this
    exact ⟨none, 0, rfl, fun _ => rfl, Below.refl _ _, (Ints.nil _ _ _ 0 _).1⟩
  · have hmk := run_make_row' (P := Tryd.prog) 22 3 (.int .i64 0) 8 Tryd.underlying22 infoInt rfl .i64 .i64 n (by omega) (by omega)
    have hz : ((n : Int) == 0) = false := by simp; omega
    have H := Lib.hid (h.alloc hB (.cells (madeCells #[.int .i64 0] n) 3))
    clear h
    go_enter Tryd.func100, Tryd.ntmps100
    go_wp2_with (with_reducible refine wpList_copy_splice (o := ⟨some 12, _, _, _, _, _⟩) rfl (.tmp 10) (.tmp 11) 22 22 rfl 3 Tryd.underlying22 sizeInt _ _ _ _ _ _ rfl rfl w.heap.size 0 (madeCells #[.int .i64 0] n).toList 3 ?c1 (xs.map (Value.int .i64)) ?c2 ?c3 ?c4 ?c5 w.heap.size w ?c6 (Nat.le_refl _) ?_)
    case c1 => exact Go.Deep.blk_alloc_new _ _
    case c2 => simp [← HL.out]
    case c3 => exact fun hp => H.out.cellsOf (by omega)
    case c4 => simp [size_madeCells, HL.out]
    case c5 => simp [Value.oneCell']
    case c6 => go_grown
    intro w1 hw1 hb1
    have HB1 := Lib.hid hb1
    have HW1 := Lib.hid hw1
    clear hb1 hw1
    go_wp2
    go_ret
    have hw1 := HW1.out.out
    rw [splice_all _ _ (by simp [HL.out])] at hw1
    have h2 : w.heap.size < w1.heap.size := (Array.getElem?_eq_some_iff.1 hw1).1
    refine ⟨_, _, rfl, fun h => absurd h h0, HB1.out, ?_⟩
    have hl := HL.out
    subst hl
    exact Ints.of_cells hw1 (by omega) hok.out (Nat.le_refl _) h2


set_option maxHeartbeats 2000000 in
theorem backlogOf_c {A A' A2 : Option Addr} {n c n' c' n2 c2 : Nat} {D S R : List Int} {p q z : Int} {w : World} {L L' B B' M C : Nat} (h : Ints w L B A n D) (h' : Ints w L' B' A' n' S) (g : Ints w M C A2 n2 R) (hB : B ≤ w.heap.size) (hB' : B' ≤ w.heap.size) (hC : C ≤ w.heap.size)
    (hn : n ≤ 1048576) (hn' : n' ≤ 1048576) (hn2 : n2 ≤ 1048576) (hp : okInt p) (hq : okInt q) :
    Calls Tryd.prog 91 #[.agg #[.slice (A) n c, .int .i64 (p), .slice (A') n' c', .int .i64 (q), .slice (A2) n2 c2, .int .i64 (z)]] w (fun e w' => ∃ (b m : Nat) (A3 : Option Addr) (n3 c3 : Nat) (A3' : Option Addr) (n3' c3' : Nat) (A4 : Option Addr) (n4 : Nat), e = .returned (.pointer (some ⟨b, 0, none⟩)) ∧ (n3 ≤ c3 ∧ n3' ≤ c3') ∧ Below w.heap.size w w' ∧ w.heap.size ≤ m ∧ m ≤ b ∧ Box w' b [.slice (A3) n3 c3, .int .i64 (p), .slice (A3') n3' c3', .int .i64 (q), .slice (A4) n4 n4, .int .i64 (z)] ∧ Ints w' w.heap.size m A3 n3 D ∧ Ints w' w.heap.size m A3' n3' S ∧ RowC w' m b A4 n4 n4 R ∧ Apart A3 n3 A3' n3') := by
  have H1 := Lib.hid (h.alloc hB (.cells #[.slice (A) n c, .int .i64 (p), .slice (A') n' c', .int .i64 (q), .slice (A2) n2 c2, .int .i64 (z)] 30))
  have H2 := Lib.hid (h'.alloc hB' (.cells #[.slice (A) n c, .int .i64 (p), .slice (A') n' c', .int .i64 (q), .slice (A2) n2 c2, .int .i64 (z)] 30))
  have G1 := Lib.hid (g.alloc hC (.cells #[.slice (A) n c, .int .i64 (p), .slice (A') n' c', .int .i64 (q), .slice (A2) n2 c2, .int .i64 (z)] 30))
  have X0 := Lib.hid (Box.new w 30 [.slice (A) n c, .int .i64 (p), .slice (A') n' c', .int .i64 (q), .slice (A2) n2 c2, .int .i64 (z)])
  clear h h' g
  go_enter Tryd.func91, Tryd.ntmps91
  go_wp2_with fail
  have x0 := (X0.out.2 0 _ rfl).1; have x1 := (X0.out.2 1 _ rfl).1; have x2 := (X0.out.2 2 _ rfl).1; have x3 := (X0.out.2 3 _ rfl).1; have x4 := (X0.out.2 4 _ rfl).1; have x5 := (X0.out.2 5 _ rfl).1
  go_region_held3 (fun w' => w'.cell? ⟨w.heap.size, 0, none⟩ = some (.slice A n c) ∧ w'.cell? ⟨w.heap.size, 1, none⟩ = some (.int .i64 p) ∧ w'.cell? ⟨w.heap.size, 2, none⟩ = some (.slice A' n' c') ∧ w'.cell? ⟨w.heap.size, 3, none⟩ = some (.int .i64 q) ∧ w'.cell? ⟨w.heap.size, 4, none⟩ = some (.slice A2 n2 c2) ∧ w'.cell? ⟨w.heap.size, 5, none⟩ = some (.int .i64 z)) (go_keep)
    (first | (go_at_call 99; refine (copyDevice_any H1.out.drew H2.out.drew (by first | omega | (simp; omega) | (simp; done)) (by first | omega | (simp; omega) | (simp; done)) hn hn' hp hq).mono ?_; rintro e w1 ⟨A3, n3, c3, A3', n3', c3', rfl, ⟨hc3, hc3'⟩, hb1, hd, hd', ha, _, _⟩; (try simp only [World.size_alloc, World.size_setCell, World.size_drew] at hb1 hd hd'); have HB1 := Lib.hid hb1; have D1 := Lib.hid hd; have D1' := Lib.hid hd'; have HA := Lib.hid ha; have s1 := hb1.size; (try simp only [World.size_alloc, World.size_setCell, World.size_drew] at s1); have X1 := Lib.hid (X0.out.drew.below hb1 (by omega)); have G2 := Lib.hid (G1.out.drew.below hb1 (by first | omega | (simp; omega) | (simp; done))); clear hb1 hd hd' ha; have x0 := (X1.out.2 0 _ rfl).1; have x1 := (X1.out.2 1 _ rfl).1; have x2 := (X1.out.2 2 _ rfl).1; have x3 := (X1.out.2 3 _ rfl).1; have x4 := (X1.out.2 4 _ rfl).1; have x5 := (X1.out.2 5 _ rfl).1) | (go_at_call 100; refine (copyList_c G2.out (by omega) hn2).mono ?_; rintro e w2 ⟨A4, n4, rfl, hz4, hb2, hi2⟩; (try simp only [World.size_alloc, World.size_setCell, World.size_drew] at hb2 hi2); have HB2 := Lib.hid hb2; have HI2 := Lib.hid hi2; have s2 := hb2.size; have X2 := Lib.hid (X1.out.below hb2 (by omega)); clear hb2 hi2; have x0 := (X2.out.2 0 _ rfl).1; have x1 := (X2.out.2 1 _ rfl).1; have x2 := (X2.out.2 2 _ rfl).1; have x3 := (X2.out.2 3 _ rfl).1; have x4 := (X2.out.2 4 _ rfl).1; have x5 := (X2.out.2 5 _ rfl).1))
  go_wp2
  go_ret
  have D2 := Lib.hid (D1.out.below HB2.out (by omega))
  have D2' := Lib.hid (D1'.out.below HB2.out (by omega))
  have e1 : Below w.heap.size w w1 := below_step HB1.out ((by go_grown : Below w.heap.size w (w.alloc _)).drew) (by omega)
  have e2 : Below w.heap.size w w2 := below_step HB2.out e1 (by omega)
  refine ⟨w2.heap.size, w1.heap.size, _, _, _, _, _, _, _, _, rfl, ⟨hc3, hc3'⟩, e2.alloc (by omega) _, by omega, by omega, Box.new w2 _ [.slice (A3) n3 c3, .int .i64 (p), .slice (A3') n3' c3', .int .i64 (q), .slice (A4) n4 n4, .int .i64 (z)], ?_, ?_, ?_, HA.out⟩
  · exact (D2.out.alloc (by omega) _).more (by omega) (by omega)
  · exact (D2'.out.alloc (by omega) _).more (by omega) (by omega)
  · exact RowC.of_full ((HI2.out.alloc (by omega) _).more (by omega) (by omega)) hz4
/-- A writer at work whose buffer may have spare cells: its script in LS..BS. -/
def BackC (lo b LS BS : Nat) (A : Option Addr) (n c : Nat) (A' : Option Addr) (n' c' : Nat) (D S : List Int) (z p : Int) (q : Nat) (A2 : Option Addr) (n2 c2 : Nat) (R : List Int) (M C M2 C2 : Nat) (w : World) : Prop :=
  BackAt lo b A n c A' n' c' D S z p q A2 n2 c2 R M C M2 C2 w ∧ RowC w M2 C2 A2 n2 c2 R ∧ Ints w LS BS A' n' S ∧ (C ≤ M2 ∨ C2 ≤ M) ∧ (BS ≤ M2 ∧ lo ≤ LS ∧ BS ≤ b ∧ M2 ≤ w.heap.size)
theorem BackC.below {lo b LS BS n c n' c' q n2 c2 M C M2 C2 B : Nat} {A A' A2 : Option Addr} {D S R : List Int} {z p : Int} {w w' : World} (h : BackC lo b LS BS A n c A' n' c' D S z p q A2 n2 c2 R M C M2 C2 w) (hb : Below B w w') (hB : w.heap.size ≤ B) : BackC lo b LS BS A n c A' n' c' D S z p q A2 n2 c2 R M C M2 C2 w' := by
  obtain ⟨h1, h2, h3, h4, h5, h6, h7, h8⟩ := h
  have hl := h1.1.lt
  have hs := hb.size
  obtain ⟨_, _, _, ⟨_, _, _, _, h9, _⟩, _⟩ := id h1
  exact ⟨h1.below hb hB, h2.below hb (by omega), h3.below hb (by omega), h4, h5, h6, h7, by omega⟩
/-- What a flush leaves is such a writer. -/
theorem BackC.flushed {lo b LS BS n c n' c' q n2 c2 M C M2 C2 : Nat} {A A' A2 : Option Addr} {D S R : List Int} {z p : Int} {a0 a1 a2 : Addr} {T : Fv} {w w' : World} {e : Ending} (h : BackC lo b LS BS A n c A' n' c' D S z p q A2 n2 c2 R M C M2 C2 w) (hp : FlushPost3 lo b A' n' c' S z a0 a1 a2 T A n M C A2 n2 M2 C2 w e w') :
    e = .returned (errV a0 a1 a2 T.st) ∧ Below lo w w' ∧ Turn w.heap.size b w w' ∧ ∃ A1 n1 c1 A5 n5 c5 M1 C1, BackC lo b LS BS A1 n1 c1 A' n' c' T.d S z T.p T.q A5 n5 c5 T.r M1 C1 M2 C2 w' := by
  obtain ⟨h1, h2, h3, h4, h5, h6, h7, h8⟩ := h
  obtain ⟨A1, n1, c1, A5, n5, c5, M1, C1, he, ht, hbk, hor, _, hrc, _⟩ := hp
  have hl := h1.1.lt
  have hs := ht.size
  obtain ⟨_, _, _, ⟨hlb, _, _, _, h9, _⟩, _⟩ := id h1
  refine ⟨he, ht.below (by omega) (by omega), ht, A1, n1, c1, A5, n5, c5, M1, C1, hbk, hrc, h3.turn ht (by omega) (.inr (by omega)), ?_, h5, h6, h7, by omega⟩
  rcases hor with ⟨rfl, rfl⟩ | h
  · exact h4
  · exact .inr (by omega)
theorem lit1C (w : World) (x : Int) (h : okInt x) : Ints (w.alloc (.cells #[.int .i64 x] 3)) w.heap.size (w.heap.size + 1) (some ⟨w.heap.size, 0, none⟩) 1 [x] :=
  ⟨rfl, by omega, (fun y hy => by simp at hy; subst hy; exact h), fun _ => ⟨w.heap.size, 0, rfl, Nat.le_refl _, Nat.lt_succ_self _, fun j y hy => by
    rw [Nat.zero_add]
    exact (Box.new w _ [.int .i64 x]).2 j (.int .i64 y) (by
      cases j with
      | zero => simp at hy ⊢; exact hy
      | succ j => simp at hy)⟩⟩
/-- A byte more in the buffer. -/
theorem BackC.put {lo b LS BS n c n' c' q n2 c2 c5 M C M2 C2 M3 C3 : Nat} {A A' A2 A5 : Option Addr} {D S R : List Int} {z p x : Int} {w w1 w' : World} (h : BackC lo b LS BS A n c A' n' c' D S z p q A2 n2 c2 R M C M2 C2 w) (hb : Below w.heap.size w w1)
    (hor : (M3 = M2 ∧ C3 = C2) ∨ (M3 = w1.heap.size ∧ C3 = w'.heap.size)) (hr : RowC w' M3 C3 A5 (n2 + 1) c5 (R ++ [x])) (hs : w1.heap.size ≤ w'.heap.size) (hk : ∀ k, k < w1.heap.size → (k < M2 ∨ C2 ≤ k) → w'.heap[k]? = w1.heap[k]?) :
    BackC lo b LS BS A n c A' n' c' D S z p q A5 (n2 + 1) c5 (R ++ [x]) M C M3 C3 (w'.setCell ⟨b, 4, none⟩ (.slice A5 (n2 + 1) c5)) := by
  obtain ⟨⟨h1, ⟨h2, h3, h4⟩, ⟨h5, h5'⟩, ⟨h6, h7, h8, h9, h10, hms⟩, ⟨h11, h12⟩, h13, h14, h15⟩, hrc, hS, hMM, hBM, hlS, hBb, hMs⟩ := h
  have hl := h1.lt
  have hs1 := hb.size
  have hCM : C ≤ M3 ∨ C3 ≤ M := by rcases hor with ⟨rfl, rfl⟩ | ⟨rfl, rfl⟩; (exact hMM); (exact .inl (by omega))
  have hb3 : b < M3 ∨ C3 ≤ b := by rcases hor with ⟨rfl, rfl⟩ | ⟨rfl, rfl⟩; (exact h5'); (exact .inl (by omega))
  have hlo3 : lo ≤ M3 ∧ BS ≤ M3 ∧ M3 ≤ w'.heap.size := by rcases hor with ⟨rfl, rfl⟩ | ⟨rfl, rfl⟩ <;> omega
  have hC3 : C3 ≤ w'.heap.size := by rcases hor with ⟨rfl, rfl⟩ | ⟨rfl, rfl⟩ <;> omega
  have keep : ∀ k, k < w.heap.size → (k < M2 ∨ C2 ≤ k) → w'.heap[k]? = w.heap[k]? := fun k hk1 hk2 => (hk k (by omega) hk2).trans (hb.block k hk1)
  have D1 : Ints w' M C A n D := h2.blocks fun k hk1 hk2 => keep k (by omega) (by omega)
  have S1 : Ints w' LS BS A' n' S := hS.blocks fun k hk1 hk2 => keep k (by omega) (by omega)
  have B1 : Box w' b [.slice (A) n c, .int .i64 (p), .slice (A') n' c', .int .i64 ((q : Int)), .slice (A2) n2 c2, .int .i64 (z)] := h1.block (keep b hl (by omega)) (by omega)
  have B2 := B1.put (i := 4) (by simp) (.slice A5 (n2 + 1) c5)
  have D2 := D1.set_ (b := b) (o := 4) h5 (.slice A5 (n2 + 1) c5)
  have S2 := S1.set_ (b := b) (o := 4) (.inr hBb) (.slice A5 (n2 + 1) c5)
  have R2 := hr.set_ (b := b) (o := 4) hb3 (.slice A5 (n2 + 1) c5)
  have apD : Apart A5 (n2 + 1) A n := by
    rcases hCM with h | h
    · exact (Apart.of_le D1 hr.ints h).symm
    · exact Apart.of_le hr.ints D1 h
  refine ⟨⟨by simpa using B2, ⟨D2, S2.more hlS hBb, R2.ints⟩, ⟨h5, hb3⟩, ⟨h6, h7, hlo3.1, by simp; omega, by simp; omega, by simp; omega⟩, ⟨h11, hr.cap⟩, h13, apD, (Apart.of_le S1 hr.ints hlo3.2.1).symm⟩, R2, S2, hCM, hlo3.2.1, hlS, hBb, by simp; omega⟩
theorem errV_at {a0 a1 a2 : Addr} {st : Int} (h : ¬ st = 0) (h4 : endSt st) : (∃ ae, errV a0 a1 a2 st = errAt ae) := by
  rcases h4 with rfl | rfl | rfl | rfl
  · exact absurd rfl h
  · exact ⟨a0, rfl⟩
  · exact ⟨a1, rfl⟩
  · exact ⟨a2, rfl⟩
def TakePost (lo b LS BS : Nat) (A' : Option Addr) (n' c' : Nat) (S : List Int) (zn : Nat) (a0 a1 a2 : Addr) (T : Fv) (x : Int) (w : World) (e : Ending) (w' : World) : Prop :=
  Below lo w w' ∧ w.heap.size ≤ w'.heap.size ∧ ∃ A1 n1 c1 A5 n5 c5 M1 C1 M5 C5, ((T.r.length = zn ∧ endSt T.st ∧ ¬ T.st = 0 ∧ e = .returned (errV a0 a1 a2 T.st) ∧ BackC lo b LS BS A1 n1 c1 A' n' c' T.d S (zn : Int) T.p T.q A5 n5 c5 T.r M1 C1 M5 C5 w') ∨ (¬ T.r.length = zn ∧ e = .returned .nilIface ∧ BackC lo b LS BS A1 n1 c1 A' n' c' T.d S (zn : Int) T.p T.q A5 n5 c5 (T.r ++ [x]) M1 C1 M5 C5 w'))
set_option maxHeartbeats 4000000 in
theorem take_any {lo b LS BS n c n' c' n2 c2 q0 M C M2 C2 E zn bd rem : Nat} {A A' A2 : Option Addr} {D S R : List Int} {p x : Int} {a0 a1 a2 : Addr} {w : World} (h : BackC lo b LS BS A n c A' n' c' D S (zn : Int) p q0 A2 n2 c2 R M C M2 C2 w) (hE : Errs w E a0 a1 a2) (hElo : E ≤ lo)
    (hok : TkOk S zn bd (rem + 1) D p q0 R) (hz : 1 ≤ zn ∧ zn ≤ 16) (hb : 12 + zn + (rem + 1) ≤ bd) (hb9 : bd ≤ 976) (hx : 0 ≤ x ∧ x ≤ 255) :
    Calls Tryd.prog 118 #[.pointer (some ⟨b, 0, none⟩), .int .i64 x] w (TakePost lo b LS BS A' n' c' S zn a0 a1 a2 (tkStep S zn D p q0 R) x w) := by
  have okx : okInt x := by unfold okInt; omega
  obtain ⟨k1, k2, k3, k4, k5, k6, k7⟩ := hok.step hz hb (by omega)
  have H := Lib.hid h
  have HE := Lib.hid hE
  have hl2 : n2 ≤ R.length ∧ R.length ≤ n2 := by have := h.2.1.len; omega
  have hbw := h.1.1.lt
  have hlob : lo ≤ b := h.1.2.2.2.1.1
  have hC2w := h.1.2.2.2.1.2.2.2.2.1
  obtain ⟨v1, v2, v3, v4, v5⟩ := hok
  have HV1 := Lib.hid v1; have HV2 := Lib.hid v2
  obtain ⟨T, hT⟩ : ∃ T, tkStep S zn D p q0 R = T := ⟨_, rfl⟩
  rw [hT] at k1 k2 k3 k4 k5 k6 k7
  have K7 := Lib.hid k7
  have HT := Lib.hid hT
  rw [hT]
  clear h hE v1 v2 k6 k7 hT
  -- the last part: the byte is put behind those of the buffer
  by_cases hfull : n2 = zn
  · have hfb : ((n2 : Int) == (zn : Int)) = true := by rw [beq_iff_eq]; omega
    have HTF : Hid (fuGo S R.length D p q0 R = T) := by show _ = _; rw [← HT.out]; unfold tkStep; rw [if_pos (by omega)]
    have HEND : Hid (endSt T.st) := by show endSt _; rw [← HTF.out]; exact (fuGo_valid R.length D p q0 R HV1.out HV2.out (by omega)).2.2.2.2
    have x4 := (H.out.1.1.2 4 _ rfl).1
    have x5 := (H.out.1.1.2 5 _ rfl).1
    go_enter Tryd.func118, Tryd.ntmps118
    go_wp2_with fail
    go_quiet (fail)
    clear x4 x5
    have HQ : Hid (BackC lo b LS BS A n c A' n' c' D S (zn : Int) p q0 A2 n2 c2 R M C M2 C2 (w.drewN nq)) := H.out
    have HEQ : Hid (Errs (w.drewN nq) E a0 a1 a2) := HE.out
    have HBQ : Hid (Below lo w (w.drewN nq)) := below_drewN (Below.refl lo w) nq
    have sq : w.heap.size ≤ (w.drewN nq).heap.size := Nat.le_refl _
    generalize w.drewN nq = wq at *
    clear nq
    have hfl := flush_any3 HQ.out.1 HQ.out.2.1 HEQ.out hElo HV1.out (by omega) (by omega) HV2.out
    rw [HTF.out] at hfl
    have HF := Lib.hid hfl
    clear hfl
    go_wp2_with fail
    refine HF.out.mono ?_
    intro e w1 hpost
    obtain ⟨rfl, hb1, ht1, A1, n1, c1, A5, n5, c5, M1, C1, hbc⟩ := HQ.out.flushed hpost
    have s1 := hb1.size
    have H1 := Lib.hid hbc
    have HB1 := Lib.hid (HBQ.out.trans hb1)
    have hl5 : n5 ≤ T.r.length ∧ T.r.length ≤ n5 := by have := hbc.2.1.len; omega
    have hC21 := hbc.1.2.2.2.1.2.2.2.2.1
    have hbw1 := hbc.1.1.lt
    have x4 := (hbc.1.1.2 4 _ rfl).1
    have x5 := (hbc.1.1.2 5 _ rfl).1
    clear hpost hbc hb1 ht1 HF
    by_cases hst : n5 = zn
    · have hfb1 : ((n5 : Int) == (zn : Int)) = true := by rw [beq_iff_eq]; omega
      have hTz : T.r.length = zn := by omega
      obtain ⟨ae, hae⟩ : ∃ ae, errV a0 a1 a2 T.st = errAt ae := errV_at (K7.out hTz) HEND.out
      have HAE := Lib.hid hae
      rw [hae]
      clear hae
      go_wp2_with fail
      go_quiet (fail)
      go_wp2
      go_ret
      exact ⟨below_drewN HB1.out nq, by show _ ≤ w1.heap.size; omega, A1, n1, c1, A5, n5, c5, M1, C1, M2, C2, .inl ⟨hTz, HEND.out, K7.out hTz, by rw [HAE.out]; rfl, H1.out⟩⟩
    · have hfb1 : ((n5 : Int) == (zn : Int)) = false := by simp; omega
      have hTz : ¬ T.r.length = zn := by omega
      generalize errV a0 a1 a2 T.st = ve
      go_wp2_with fail
      go_quiet (fail)
      clear x4 x5
      have H2 : Hid (BackC lo b LS BS A1 n1 c1 A' n' c' T.d S (zn : Int) T.p T.q A5 n5 c5 T.r M1 C1 M2 C2 (w1.drewN nq)) := H1.out
      have HB2 : Hid (Below lo w (w1.drewN nq)) := below_drewN HB1.out nq
      have s2 : wq.heap.size ≤ (w1.drewN nq).heap.size := s1
      clear H1 HB1
      generalize w1.drewN nq = w2 at *
      clear nq
      have x4 := (H2.out.1.1.2 4 _ rfl).1
      have x5 := (H2.out.1.1.2 5 _ rfl).1
      have s9 : (w2.alloc (.cells #[.int .i64 x] 3)).heap.size = w2.heap.size + 1 := by simp
      have HC := H2.out.1.2.2.2.1.2.2.2.2.1
      go_wp2_with (first | (at_builtin; refine wpList_append_rowC rfl (.tmp 33) (.tmp 35) rfl (lo := M2) (hi := C2) (n := n5) (c := c5) (l2 := w2.heap.size) (h2 := w2.heap.size + 1) (A := A5) (xs := T.r) (y := x) rfl (H2.out.2.1.alloc HC (.cells #[.int .i64 x] 3)) (by have := H2.out.2.2.2.2.2.2.2; simp; omega) (by simp; omega) w2.heap.size rfl (lit1C w2 x okx) (by omega) ?_))
      intro A9 c9 lo2 hi2 w9 hor hr9 hs9 hk9 hb9
      have HP := Lib.hid (H2.out.put (Below.alloc (Below.refl _ w2) (Nat.le_refl _) (.cells #[.int .i64 x] 3)) (by rw [s9]; exact hor) hr9 (by rw [s9]; exact hs9) (by rw [s9]; exact hk9))
      have HB9 : Hid (Below lo w2 w9) := (Below.alloc (Below.refl lo w2) (by omega) (.cells #[.int .i64 x] 3)).trans (hb9.mono H2.out.1.2.2.2.1.2.2.1)
      have hbo : H2.out.1.2.2.1.2 = H2.out.1.2.2.1.2 := rfl
      have B9 : Box w9 b [.slice (A1) n1 c1, .int .i64 (T.p), .slice (A') n' c', .int .i64 ((T.q : Int)), .slice (A5) n5 c5, .int .i64 ((zn : Int))] := (H2.out.1.1.alloc (.cells #[.int .i64 x] 3)).block (hk9 b (by have := H2.out.1.1.lt; omega) H2.out.1.2.2.1.2) (by rw [s9]; exact hs9)
      have f4 := (B9.2 4 _ rfl).2
      have x4b := (B9.2 4 _ rfl).1
      clear hor hr9 hk9 hb9 hbo B9 x4 x5
      go_wp2
      go_ret
      have sF : (w9.setCell ⟨b, 4, none⟩ (.slice A9 (n5 + 1) c9)).heap.size = w9.heap.size := by simp
      exact ⟨HB2.out.trans (HB9.out.setCell (p := ⟨b, 4, none⟩) hlob _), by rw [sF]; omega, A1, n1, c1, A9, n5 + 1, c9, M1, C1, lo2, hi2, .inr ⟨hTz, rfl, HP.out⟩⟩
  · have hfb : ((n2 : Int) == (zn : Int)) = false := by simp; omega
    have hTT : T = ⟨D, p, q0, R, 0⟩ := by rw [← HT.out]; unfold tkStep; rw [if_neg (by omega)]
    subst hTT
    have hTz : ¬ R.length = zn := by omega
    have x4 := (H.out.1.1.2 4 _ rfl).1
    have x5 := (H.out.1.1.2 5 _ rfl).1
    go_enter Tryd.func118, Tryd.ntmps118
    go_wp2_with fail
    go_quiet (fail)
    clear x4 x5
    have H2 : Hid (BackC lo b LS BS A n c A' n' c' D S (zn : Int) p q0 A2 n2 c2 R M C M2 C2 (w.drewN nq)) := H.out
    have HB2 : Hid (Below lo w (w.drewN nq)) := below_drewN (Below.refl lo w) nq
    have s2 : w.heap.size ≤ (w.drewN nq).heap.size := Nat.le_refl _
    generalize w.drewN nq = w2 at *
    clear nq
    have x4 := (H2.out.1.1.2 4 _ rfl).1
    have x5 := (H2.out.1.1.2 5 _ rfl).1
    have s9 : (w2.alloc (.cells #[.int .i64 x] 3)).heap.size = w2.heap.size + 1 := by simp
    have HC := H2.out.1.2.2.2.1.2.2.2.2.1
    go_wp2_with (first | (at_builtin; refine wpList_append_rowC rfl (.tmp 33) (.tmp 35) rfl (lo := M2) (hi := C2) (n := n2) (c := c2) (l2 := w2.heap.size) (h2 := w2.heap.size + 1) (A := A2) (xs := R) (y := x) rfl (H2.out.2.1.alloc HC (.cells #[.int .i64 x] 3)) (by have := H2.out.2.2.2.2.2.2.2; simp; omega) (by simp; omega) w2.heap.size rfl (lit1C w2 x okx) (by omega) ?_))
    intro A9 c9 lo2 hi2 w9 hor hr9 hs9 hk9 hb9
    have HP := Lib.hid (H2.out.put (Below.alloc (Below.refl _ w2) (Nat.le_refl _) (.cells #[.int .i64 x] 3)) (by rw [s9]; exact hor) hr9 (by rw [s9]; exact hs9) (by rw [s9]; exact hk9))
    have HB9 : Hid (Below lo w2 w9) := (Below.alloc (Below.refl lo w2) (by omega) (.cells #[.int .i64 x] 3)).trans (hb9.mono H2.out.1.2.2.2.1.2.2.1)
    have hbo : H2.out.1.2.2.1.2 = H2.out.1.2.2.1.2 := rfl
    have B9 : Box w9 b [.slice (A) n c, .int .i64 (p), .slice (A') n' c', .int .i64 ((q0 : Int)), .slice (A2) n2 c2, .int .i64 ((zn : Int))] := (H2.out.1.1.alloc (.cells #[.int .i64 x] 3)).block (hk9 b (by have := H2.out.1.1.lt; omega) H2.out.1.2.2.1.2) (by rw [s9]; exact hs9)
    have f4 := (B9.2 4 _ rfl).2
    have x4b := (B9.2 4 _ rfl).1
    clear hor hr9 hk9 hb9 hbo B9 x4 x5
    go_wp2
    go_ret
    have sF : (w9.setCell ⟨b, 4, none⟩ (.slice A9 (n2 + 1) c9)).heap.size = w9.heap.size := by simp
    exact ⟨HB2.out.trans (HB9.out.setCell (p := ⟨b, 4, none⟩) hlob _), by rw [sF]; omega, A, n, c, A9, n2 + 1, c9, M, C, lo2, hi2, .inr ⟨hTz, rfl, HP.out⟩⟩
end
end Go.Proofs.YtdiebkaedjlckaaDoor
