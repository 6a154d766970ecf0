/- impl's small functions of codes. -/
import Derived.Test.YtkgjcoakeliocaaDoorV0
import Derived.Test.YtkgjcoakeliocaaDoorS1d
namespace Go.Proofs.YtkgjcoakeliocaaDoor
open Go.ChangeShapes Go.WideShapes Go.ChangeAt Go.RowKit
set_option linter.unusedSimpArgs false
set_option linter.unusedVariables false
set_option maxRecDepth 100000

/-- The table of borders is there. -/
def tabL : List Value := [.int .i64 0, .int .i64 1, .int .i64 128, .int .i64 3, .int .i64 192, .int .i64 0, .int .i64 194, .int .i64 2, .int .i64 224, .int .i64 0]
def Tab (w : World) : Prop := Box w 0 tabL
theorem Tab.below {w w' : World} {B : Nat} (h : Tab w) (hb : Below B w w') (hB : w.heap.size ≤ B) : Tab w' := Box.below h hb (by have := h.lt; omega)
theorem Tab.keep {w w' : World} {B : Nat} (h : Tab w) (hb : Below B w w') (hB : 0 < B) : Tab w' := Box.below h hb hB
theorem Tab.alloc {w : World} (h : Tab w) (o : Obj) : Tab (w.alloc o) := Box.alloc h o
theorem Tab.drew {w : World} (h : Tab w) : Tab w.drew := h
theorem Tab.lt {w : World} (h : Tab w) : 0 < w.heap.size := h.1
/-- What a number is by the first k borders. -/
def prt (n : Int) (k : Nat) : Int := ([((0 : Int), (1 : Int)), (128, 3), (192, 0), (194, 2), (224, 0)].take k).foldl (fun a b => if b.1 ≤ n then b.2 else a) 0
theorem prt_all (n : Int) : prt n 5 = partN n := by
  simp only [prt, List.take_succ_cons, List.take_zero, List.foldl_cons, List.foldl_nil, partN]
  by_cases h1 : n < 0
  · rw [if_neg (by omega), if_neg (by omega), if_neg (by omega), if_neg (by omega), if_neg (by omega), if_pos h1]
  · by_cases h2 : n < 128
    · rw [if_neg (by omega), if_neg (by omega), if_neg (by omega), if_neg (by omega), if_pos (by omega), if_neg h1, if_pos h2]
    · by_cases h3 : n < 192
      · rw [if_neg (by omega), if_neg (by omega), if_neg (by omega), if_pos (by omega), if_neg h1, if_neg h2, if_pos h3]
      · by_cases h4 : n < 194
        · rw [if_neg (by omega), if_neg (by omega), if_pos (by omega), if_neg h1, if_neg h2, if_neg h3, if_pos h4]
        · by_cases h5 : n < 224
          · rw [if_neg (by omega), if_pos (by omega), if_neg h1, if_neg h2, if_neg h3, if_neg h4, if_pos h5]
          · rw [if_pos (by omega), if_neg h1, if_neg h2, if_neg h3, if_neg h4, if_neg h5]
theorem prt_0 (n : Int) : prt n 0 = 0 := rfl
theorem prt_1 (n : Int) : prt n 1 = if 0 ≤ n then 1 else prt n 0 := rfl
theorem prt_2 (n : Int) : prt n 2 = if 128 ≤ n then 3 else prt n 1 := rfl
theorem prt_3 (n : Int) : prt n 3 = if 192 ≤ n then 0 else prt n 2 := rfl
theorem prt_4 (n : Int) : prt n 4 = if 194 ≤ n then 2 else prt n 3 := rfl
theorem prt_5 (n : Int) : prt n 5 = if 224 ≤ n then 0 else prt n 4 := rfl

def tabA : Array Value := #[.int .i64 0, .int .i64 1, .int .i64 128, .int .i64 3, .int .i64 192, .int .i64 0, .int .i64 194, .int .i64 2, .int .i64 224, .int .i64 0]
set_option maxHeartbeats 4000000 in
theorem partOf_any {n : Int} {w : World} (hT : Tab w) : Calls Tryd.prog 59 #[.int .i64 n] w (IntB (partN n) w) := by
  have t0 := (hT.2 0 _ rfl).1; have t1 := (hT.2 1 _ rfl).1; have t2 := (hT.2 2 _ rfl).1; have t3 := (hT.2 3 _ rfl).1; have t4 := (hT.2 4 _ rfl).1; have t5 := (hT.2 5 _ rfl).1; have t6 := (hT.2 6 _ rfl).1; have t7 := (hT.2 7 _ rfl).1; have t8 := (hT.2 8 _ rfl).1; have t9 := (hT.2 9 _ rfl).1
  rw [← prt_all]
  have i0 : ∀ w, (Instr.index 61 (.agg #[.int .i64 0, .int .i64 1, .int .i64 128, .int .i64 3, .int .i64 192, .int .i64 0, .int .i64 194, .int .i64 2, .int .i64 224, .int .i64 0]) (.int .i64 0)).run Tryd.prog w = .ok (.agg #[.int .i64 0, .int .i64 1]) w := fun _ => by kernel_rfl
  have i1 : ∀ w, (Instr.index 61 (.agg #[.int .i64 0, .int .i64 1, .int .i64 128, .int .i64 3, .int .i64 192, .int .i64 0, .int .i64 194, .int .i64 2, .int .i64 224, .int .i64 0]) (.int .i64 1)).run Tryd.prog w = .ok (.agg #[.int .i64 128, .int .i64 3]) w := fun _ => by kernel_rfl
  have i2 : ∀ w, (Instr.index 61 (.agg #[.int .i64 0, .int .i64 1, .int .i64 128, .int .i64 3, .int .i64 192, .int .i64 0, .int .i64 194, .int .i64 2, .int .i64 224, .int .i64 0]) (.int .i64 2)).run Tryd.prog w = .ok (.agg #[.int .i64 192, .int .i64 0]) w := fun _ => by kernel_rfl
  have i3 : ∀ w, (Instr.index 61 (.agg #[.int .i64 0, .int .i64 1, .int .i64 128, .int .i64 3, .int .i64 192, .int .i64 0, .int .i64 194, .int .i64 2, .int .i64 224, .int .i64 0]) (.int .i64 3)).run Tryd.prog w = .ok (.agg #[.int .i64 194, .int .i64 2]) w := fun _ => by kernel_rfl
  have i4 : ∀ w, (Instr.index 61 (.agg #[.int .i64 0, .int .i64 1, .int .i64 128, .int .i64 3, .int .i64 192, .int .i64 0, .int .i64 194, .int .i64 2, .int .i64 224, .int .i64 0]) (.int .i64 4)).run Tryd.prog w = .ok (.agg #[.int .i64 224, .int .i64 0]) w := fun _ => by kernel_rfl
  go_enter Tryd.func59, Tryd.ntmps59
  go_wp2
  clear t0 t1 t2 t3 t4 t5 t6 t7 t8 t9
  go_loopw [3, 7] (fun p i wr => ∃ k : Nat, k ≤ 5 ∧ i = .int .i64 k ∧ p = .int .i64 (prt n k) ∧ Hid (Below w.heap.size w wr)) (fun _ i _ => 5 - (intOf i).toNat)
  case atStart => exact ⟨0, by omega, rfl, rfl, Below.refl _ _⟩
  case round =>
    obtain ⟨k, hk, rfl, rfl, HB⟩ := hrel
    have hc : k = 0 ∨ k = 1 ∨ k = 2 ∨ k = 3 ∨ k = 4 ∨ k = 5 := by omega
    rcases hc with rfl | rfl | rfl | rfl | rfl | rfl
    · by_cases hb : 0 ≤ n
      all_goals
        go_wp2
        go_roundw
        case rel => exact ⟨1, by omega, rfl, by rw [prt_1]; simp [hb], by show Below _ _ _; exact below_step (by go_grown : Below wr.heap.size wr _) HB.out HB.out.size⟩
        case measure => simp [intOf]
    · by_cases hb : 128 ≤ n
      all_goals
        go_wp2
        go_roundw
        case rel => exact ⟨2, by omega, rfl, by rw [prt_2]; simp [hb], by show Below _ _ _; exact below_step (by go_grown : Below wr.heap.size wr _) HB.out HB.out.size⟩
        case measure => simp [intOf]
    · by_cases hb : 192 ≤ n
      all_goals
        go_wp2
        go_roundw
        case rel => exact ⟨3, by omega, rfl, by rw [prt_3]; simp [hb], by show Below _ _ _; exact below_step (by go_grown : Below wr.heap.size wr _) HB.out HB.out.size⟩
        case measure => simp [intOf]
    · by_cases hb : 194 ≤ n
      all_goals
        go_wp2
        go_roundw
        case rel => exact ⟨4, by omega, rfl, by rw [prt_4]; simp [hb], by show Below _ _ _; exact below_step (by go_grown : Below wr.heap.size wr _) HB.out HB.out.size⟩
        case measure => simp [intOf]
    · by_cases hb : 224 ≤ n
      all_goals
        go_wp2
        go_roundw
        case rel => exact ⟨5, by omega, rfl, by rw [prt_5]; simp [hb], by show Below _ _ _; exact below_step (by go_grown : Below wr.heap.size wr _) HB.out HB.out.size⟩
        case measure => simp [intOf]
    · go_wp2
      go_ret
      exact ⟨rfl, HB.out⟩
theorem isKept_any {p : Int} {w : World} : Calls Tryd.prog 53 #[.int .i32 p] w fun e w' => e = .returned (.bool (decide (2047 < p))) ∧ w = w' := by
  by_cases h : 2047 < p
  all_goals
    go_enter Tryd.func53, Tryd.ntmps53
    go_wp2
    go_ret
    exact ⟨ret_bool (by simp [h]), rfl⟩
set_option maxHeartbeats 1000000 in
theorem isPair_any {b c : Int} {w : World} (hT : Tab w) : Calls Tryd.prog 67 #[.int .i64 b, .int .i64 c] w (BoolB (pairB b c) w) := by
  have HT := Lib.hid hT
  cases hl : leadB b
  · have h1 : (partN b == 2) = false := by rw [part_two]; exact hl
    go_enter Tryd.func67, Tryd.ntmps67
    go_wp2_with fail
    refine (partOf_any HT.out).mono ?_
    rintro e w1 ⟨rfl, hb1⟩
    have HB := Lib.hid hb1
    clear hb1
    generalize partN b = q at *
    go_wp2
    go_ret
    exact ⟨ret_bool (by simp [pairB, hl]), HB.out⟩
  · have h1 : (partN b == 2) = true := by rw [part_two]; exact hl
    obtain h1 : partN b = 2 := by simpa using h1
    have h2 := part_three c
    go_enter Tryd.func67, Tryd.ntmps67
    go_wp2_with fail
    refine (partOf_any HT.out).mono ?_
    rintro e w1 ⟨rfl, hb1⟩
    have HT1 := Lib.hid (HT.out.below hb1 (Nat.le_refl _))
    have HB := Lib.hid hb1
    clear hb1
    rw [h1]
    go_wp2_with fail
    refine (partOf_any HT1.out).mono ?_
    rintro e w2 ⟨rfl, hb2⟩
    have HB2 := Lib.hid (HB.out.trans (hb2.mono HB.out.size))
    clear hb2
    generalize partN c = q at *
    go_wp2
    go_ret
    exact ⟨ret_bool (by simp [pairB, hl, ← h2]), HB2.out⟩
/-- 0, or a byte that waits. -/
def waitB (n : Int) : Bool := n == 0 || leadB n
set_option maxHeartbeats 1000000 in
theorem isLead_any {n : Int} {w : World} (hT : Tab w) : Calls Tryd.prog 57 #[.int .i64 n] w (BoolB (waitB n) w) := by
  have HT := Lib.hid hT
  by_cases h0 : n = 0
  · subst h0
    go_enter Tryd.func57, Tryd.ntmps57
    go_wp2
    go_ret
    exact ⟨rfl, Below.refl _ _⟩
  · have h1 : (n == 0) = false := by simp [h0]
    have h2 := part_two n
    go_enter Tryd.func57, Tryd.ntmps57
    go_wp2_with fail
    refine (partOf_any HT.out).mono ?_
    rintro e w1 ⟨rfl, hb1⟩
    have HB := Lib.hid hb1
    clear hb1
    generalize partN n = q at *
    go_wp2
    go_ret
    exact ⟨ret_bool (by simp [waitB, h0, ← h2]), HB.out⟩
/-- A number is a point. -/
def ptB (p : Int) : Bool := inB p 0 2047 || inB p 3128 3255
def ptsB (xs : List Int) : Bool := decide (xs.length ≤ 60) && xs.all ptB
theorem isPoint_any {p : Int} {w : World} : Calls Tryd.prog 47 #[.int .i64 p] w fun e w' => e = .returned (.bool (ptB p)) ∧ w = w' := by
  cases h : inB p 0 2047
  all_goals
    go_enter Tryd.func47, Tryd.ntmps47
    go_wp2_with (go_at_call 58; refine (isIn_any).mono ?_; rintro e w' ⟨rfl, rfl⟩)
    go_ret
    exact ⟨ret_bool (by simp [ptB, h]), rfl⟩
theorem all_snoc {f : Int → Bool} {xs : List Int} {k : Nat} {x : Int} (h : xs[k]? = some x) : (xs.take (k + 1)).all f = ((xs.take k).all f && f x) := by
  rw [take_snoc h]; simp [List.all_append]
theorem all_no {f : Int → Bool} {xs : List Int} {k : Nat} {x : Int} (h : xs[k]? = some x) (hx : f x = false) : xs.all f = false := by
  have hm : x ∈ xs := List.mem_of_getElem? h
  cases hb : xs.all f with
  | false => rfl
  | true => rw [List.all_eq_true] at hb; rw [hb x hm] at hx; cases hx
set_option maxHeartbeats 1000000 in
theorem ValidPoints_any {A : Option Addr} {n c : Nat} {xs : List Int} {w : World} {L B : Nat} (h : Ints w L B A n xs) :
    Calls Tryd.prog 15 #[.slice A n c] w fun e w' => e = .returned (.bool (ptsB xs)) ∧ w = w' := by
  have hm := h.max
  have hl := h.len
  have HL := Lib.hid hl
  clear hl
  by_cases h60 : n ≤ 60
  · have h1 : ¬ ((n : Int) > 60) := by omega
    go_enter Tryd.func15, Tryd.ntmps15
    go_wp2
    go_loop [10] (fun i => ∃ k : Nat, k ≤ n ∧ i = .int .i64 k ∧ (xs.take k).all ptB = true) (fun i => n - (intOf i).toNat)
    case atStart => exact ⟨0, Nat.zero_le _, rfl, rfl⟩
    case round =>
      obtain ⟨k, hk, rfl, hall⟩ := hrel
      have HA := Lib.hid hall
      clear hall
      by_cases hlt : k < n
      · obtain ⟨b, o, x, rfl, _, hc, hx⟩ := h.at_ hlt
        cases hb : ptB x
        · go_wp2_with (go_at_call 47; refine (isPoint_any).mono ?_; rintro e w' ⟨rfl, rfl⟩)
          go_ret
          exact ⟨ret_bool (by simp [ptsB, all_no hx.out hb]), rfl⟩
        · go_wp2_with (go_at_call 47; refine (isPoint_any).mono ?_; rintro e w' ⟨rfl, rfl⟩)
          go_round
          case rel => exact ⟨k + 1, by omega, by go_num, by rw [all_snoc hx.out, HA.out, hb]; rfl⟩
          case measure => simp [intOf]; omega
      · go_wp2
        go_ret
        have hkl : xs.take k = xs := List.take_of_length_le (by have := HL.out; omega)
        have h60' : xs.length ≤ 60 := by have := HL.out; omega
        exact ⟨ret_bool (by have := HA.out; rw [hkl] at this; simp only [ptsB, this]; simp [h60']), rfl⟩
  · have h1 : (n : Int) > 60 := by omega
    go_enter Tryd.func15, Tryd.ntmps15
    go_wp2
    go_ret
    have hx : ¬ xs.length ≤ 60 := by have := HL.out; omega
    exact ⟨ret_bool (by simp [ptsB, hx]), rfl⟩
end Go.Proofs.YtkgjcoakeliocaaDoor
