/- Plain facts for the promises of newlines. -/
import Derived.Test.YtlekbmlacinkdaaQ1
import Derived.Test.YtlekbmlacinkdaaG1
import Derived.Test.YtlekbmlacinkdaaN8
namespace Go.Proofs.Ytlekbmlacinkdaa
open Go.ChangeShapes Go.WideShapes Go.ChangeAt Go.RowKit
set_option linter.unusedSimpArgs false
set_option linter.unusedVariables false

theorem to_nb {f : Nat} {args : Array Value} {w : World} {H H' : Bool} {S S' : Int} {b b' : Bool} (h : Calls Try.prog f args w (NbPost H S b w)) (e1 : H = H') (e2 : S = S') (e3 : b = b') : Calls Try.prog f args w (NbPost H' S' b' w) := by subst e1 e2 e3; exact h
theorem to_nl {f : Nat} {args : Array Value} {w : World} {H H' : Bool} {S S' : Int} {R R' : List Int} (h : Calls Try.prog f args w (NlPost H S R w)) (e1 : H = H') (e2 : S = S') (e3 : R = R') : Calls Try.prog f args w (NlPost H' S' R' w) := by subst e1 e2 e3; exact h
theorem to_intN {f : Nat} {args : Array Value} {w : World} {a b : Int} (h : Calls Try.prog f args w (IntB a w)) (e : a = b) : Calls Try.prog f args w (IntB b w) := e ▸ h
theorem to_listN {f : Nat} {args : Array Value} {w : World} {a b : List Int} (h : Calls Try.prog f args w (ListPost a w)) (e : a = b) : Calls Try.prog f args w (ListPost b w) := e ▸ h

theorem nn_ns {z : Int} (h : inB z 0 15 = true) : nnOut (nsH z) (nsS z) = z := by
  obtain ⟨h0, h1⟩ := inB_iff.1 h
  have hs : inB (z / 2) 0 7 = true := inB_true (by omega) (by omega)
  simp only [nnOut, nsH, nsS, h, if_true, hs, Bool.true_and, decide_eq_true_eq]
  split <;> omega
theorem ns_nn {b : Bool} {s : Int} (h : inB s 0 7 = true) : inB (nnOut b s) 0 15 = true ∧ nsH (nnOut b s) = b ∧ nsS (nnOut b s) = s ∧ 0 ≤ nnOut b s ∧ nnOut b s ≤ 15 := by
  obtain ⟨h0, h1⟩ := inB_iff.1 h
  have e : nnOut b s = 2 * s + (if b then 1 else 0) := by simp [nnOut, h]
  rw [e]
  cases b
  · have hi : inB (2 * s + 0) 0 15 = true := inB_true (by omega) (by omega)
    have h2 : (2 * s + 0) % 2 = 0 := by omega
    have h3 : (2 * s + 0) / 2 = s := by omega
    simp only [nsH, nsS, Bool.false_eq_true, if_false, hi, if_true, h2, h3]
    refine ⟨?_, ?_, ?_, by omega, by omega⟩ <;> simp
  · have hi : inB (2 * s + 1) 0 15 = true := inB_true (by omega) (by omega)
    have h2 : (2 * s + 1) % 2 = 1 := by omega
    have h3 : (2 * s + 1) / 2 = s := by omega
    simp only [nsH, nsS, if_true, hi, h2, h3]
    refine ⟨?_, ?_, ?_, by omega, by omega⟩ <;> simp
theorem nn_no {b : Bool} {s : Int} (h : inB s 0 7 = false) : nnOut b s = -1 := by simp [nnOut, h]

/-! Counting -/
theorem ce_no {xs : List Int} (h : bytesB xs = false) : ceOut xs = -1 := by simp [ceOut, h]
theorem ce_yes {xs : List Int} (h : bytesB xs = true) : ceOut xs = ((c10 xs : Nat) : Int) := by simp [ceOut, h, c10]
theorem ei_no {xs : List Int} (h : bytesB xs = false) : eiOut xs = -1 := by simp [eiOut, h]
theorem ei_yes {xs : List Int} (h : bytesB xs = true) : eiOut xs = nlS true false 0 xs := by simp [eiOut, h]
theorem ni_of {s : Int} {xs : List Int} (hs : inB s 0 7 = true) (hb : bytesB xs = true) : niOk s xs = true := by simp [niOk, hs, hb]
theorem nlM_free_len (f : Bool) (xs : List Int) : (nlM f false xs).length ≤ xs.length := by have := nlM_len f xs false; simpa using this
/-- A byte 10 is told for each line end that is met, and none without. -/
theorem seen_zero (xs : List Int) : ∀ (held : Bool) (s : Int), 0 ≤ s → s ≤ 7 → (nlS true held s xs = 0 ↔ s = 0 ∧ (nlM true held xs).count 10 = 0) := by
  have hor : ∀ s k : Int, 0 ≤ s → s ≤ 7 → (k = 1 ∨ k = 2 ∨ k = 4) → ¬ orM s k = 0 := by
    intro s k h1 h2 hk
    have hs : s = 0 ∨ s = 1 ∨ s = 2 ∨ s = 3 ∨ s = 4 ∨ s = 5 ∨ s = 6 ∨ s = 7 := by omega
    rcases hs with rfl | rfl | rfl | rfl | rfl | rfl | rfl | rfl <;> rcases hk with rfl | rfl | rfl <;> decide
  induction xs with
  | nil =>
    intro held s h1 h2
    cases held
    · simp [nlS, nlM]
    · simp [nlS, nlM, hor s 1 h1 h2 (.inl rfl)]
  | cons x xs ih =>
    intro held s h1 h2
    obtain ⟨a, b⟩ := seen1_in (held := held) (x := x) h1 h2
    simp only [nlS, nlM]
    rw [ih _ _ a b]
    by_cases h10 : x = 10
    · subst h10
      cases held
      · simp [seen1, hor s 2 h1 h2 (.inr (.inl rfl))]
      · simp [seen1, hor s 4 h1 h2 (.inr (.inr rfl))]
    · have e : (x == 10) = false := by simp [h10]
      have e2 : (x != 10) = true := by simp [h10]
      cases held
      · by_cases h13 : x = 13
        · subst h13; simp [seen1]
        · have e3 : (x == 13) = false := by simp [h13]
          simp [seen1, e, e3, h10]
      · simp [seen1, e, e2, hor s 1 h1 h2 (.inl rfl)]
theorem ei_ce {xs : List Int} (h : bytesB xs = true) : (eiOut xs = 0) ↔ (ceOut xs = 0) := by
  rw [ei_yes h, ce_yes h, seen_zero xs false 0 (by omega) (by omega)]
  simp [c10]
/-- In parts. -/
theorem nl_parts (f : Bool) (xs ys : List Int) : ∀ (held : Bool) (s : Int), nlM f held (xs ++ ys) = nlM false held xs ++ nlM f (nlH held xs) ys ∧ nlH held (xs ++ ys) = nlH (nlH held xs) ys ∧ nlS f held s (xs ++ ys) = nlS f (nlH held xs) (nlS false held s xs) ys := by
  induction xs with
  | nil => intro held s; cases held <;> simp [nlM, nlH, nlS]
  | cons x xs ih =>
    intro held s
    obtain ⟨i1, i2, i3⟩ := ih (x == 13) (seen1 held x s)
    refine ⟨?_, ?_, ?_⟩
    · simp only [List.cons_append, nlM, nlH, i1, List.append_assoc]
    · simp only [List.cons_append, nlH, i2]
    · simp only [List.cons_append, nlS, nlH, i3]
/-- The bytes come back. -/
theorem nl_back {k : Int} (hk : k = 1 ∨ k = 2 ∨ k = 4) (xs : List Int) (h13 : ∀ x ∈ xs, x ≠ 13) :
    (nlM true false (outL xs k) = xs ∧ (k = 1 → nlM true true (outL xs k) = 10 :: xs)) := by
  induction xs with
  | nil => rcases hk with rfl | rfl | rfl <;> simp [outL, nlM]
  | cons x xs ih =>
    obtain ⟨i1, i2⟩ := ih fun y hy => h13 y (List.mem_cons_of_mem _ hy)
    have e : outL (x :: xs) k = (if x = 10 then endL k else [x]) ++ outL xs k := by simp [outL]
    rw [e]
    by_cases h10 : x = 10
    · subst h10
      rcases hk with rfl | rfl | rfl
      · have := i2 rfl
        simp [endL, nlM, this]
      · simp [endL, nlM, i1]
      · simp [endL, nlM, i1]
    · have hx := h13 x List.mem_cons_self
      have e1 : (x == 13) = false := by simp [hx]
      have e2 : (x != 10) = true := by simp [h10]
      simp [h10, nlM, e1, e2, i1]
theorem nl_back_held {k : Int} (hk : k = 1 ∨ k = 2 ∨ k = 4) (xs : List Int) : ∀ held, (nlH held (outL xs k) && !true) = false := by intro held; simp
theorem orM_same {k : Int} (hk : k = 1 ∨ k = 2 ∨ k = 4) : orM 0 k = k ∧ orM k k = k := by rcases hk with rfl | rfl | rfl <;> decide
/-- What is met is the mark alone. -/
theorem nl_back_seen {k : Int} (hk : k = 1 ∨ k = 2 ∨ k = 4) (xs : List Int) (h13 : ∀ x ∈ xs, x ≠ 13) : ∀ s : Int, (s = 0 ∨ s = k) → ((nlS true false s (outL xs k) = 0 ∨ nlS true false s (outL xs k) = k) ∧ (k = 1 → (nlS true true s (outL xs k) = 0 ∨ nlS true true s (outL xs k) = k))) := by
  obtain ⟨o1, o2⟩ := orM_same hk
  have ho : ∀ s : Int, (s = 0 ∨ s = k) → orM s k = k := fun s hs => by rcases hs with rfl | rfl; exact o1; exact o2
  induction xs with
  | nil =>
    intro s hs
    refine ⟨by simp [outL, nlS]; exact hs, fun h1 => ?_⟩
    subst h1
    have := ho s hs
    simp [outL, nlS, this]
  | cons x xs ih =>
    intro s hs
    have ih := ih fun y hy => h13 y (List.mem_cons_of_mem _ hy)
    have e : outL (x :: xs) k = (if x = 10 then endL k else [x]) ++ outL xs k := by simp [outL]
    rw [e]
    by_cases h10 : x = 10
    · subst h10
      rcases hk with rfl | rfl | rfl
      · have h2 := ho s hs
        have i1 := (ih s hs).2 rfl
        have i2 := (ih 1 (.inr rfl)).2 rfl
        refine ⟨?_, fun _ => ?_⟩
        · simp [endL, nlS, seen1]; exact i1
        · simp [endL, nlS, seen1, h2]; exact i2
      · have h2 := ho s hs
        refine ⟨?_, fun h => by omega⟩
        simp [endL, nlS, seen1, h2]; exact (ih 2 (.inr rfl)).1
      · have h2 := ho s hs
        refine ⟨?_, fun h => by omega⟩
        simp [endL, nlS, seen1, h2]; exact (ih 4 (.inr rfl)).1
    · have hx := h13 x List.mem_cons_self
      have e1 : (x == 13) = false := by simp [hx]
      have e2 : (x == 10) = false := by simp [h10]
      refine ⟨?_, fun h => ?_⟩
      · simp [h10, nlS, e1, e2, seen1]; exact (ih s hs).1
      · subst h
        have h2 := ho s hs
        simp [h10, nlS, e1, e2, seen1, h2]; exact (ih 1 (.inr rfl)).1
theorem Ints.goneN {w : World} {lo hi n a : Nat} {A : Option Addr} {xs : List Int} (h : Ints w lo hi A n xs) (hz : n ≤ a) (A' : Option Addr) : Ints w lo hi A' 0 (xs.drop a) := by
  rw [List.drop_of_length_le (by rw [← h.1]; exact hz)]
  exact (Ints.nil _ _ _ 0 _).1
theorem ni0 {xs : List Int} (h : bytesB xs = true) : niH false true 0 xs = false ∧ niS false true 0 xs = nlS true false 0 xs ∧ niL false true 0 xs = nlM true false xs := by
  obtain ⟨a, b, c⟩ := ni_yes (held := false) (f := true) (ni_of (s := 0) (by decide) h)
  exact ⟨by rw [a]; simp, b, c⟩
theorem allB_of {xs : List Int} {lo hi : Int} (h : ∀ x ∈ xs, lo ≤ x ∧ x ≤ hi) : allB xs lo hi = true := by
  rw [allB, List.all_eq_true]
  exact fun x hx => inB_iff.2 (h x hx)
theorem allB_mem {xs : List Int} {lo hi : Int} (h : allB xs lo hi = true) : ∀ x ∈ xs, lo ≤ x ∧ x ≤ hi := by
  rw [allB, List.all_eq_true] at h
  exact fun x hx => inB_iff.1 (h x hx)
theorem bytesB_iff {xs : List Int} : bytesB xs = true ↔ xs.length ≤ 60 ∧ ∀ x ∈ xs, 0 ≤ x ∧ x ≤ 255 := by
  constructor
  · exact fun h => ⟨bytesB_le h, allB_mem (bytesB_all h)⟩
  · rintro ⟨h1, h2⟩
    simp [bytesB, h1, allB_of h2]
theorem bytesB_sub {xs ys : List Int} (h : bytesB xs = true) (hl : ys.length ≤ xs.length) (hs : ∀ y ∈ ys, y ∈ xs) : bytesB ys = true := by
  obtain ⟨a, b⟩ := bytesB_iff.1 h
  exact bytesB_iff.2 ⟨by omega, fun y hy => b y (hs y hy)⟩
theorem outL_bytes {xs : List Int} {k : Int} (h : noOk xs k = true) (hl : (outL xs k).length ≤ 60) : bytesB (outL xs k) = true := by
  rw [isMarkB, Bool.and_eq_true] at h
  refine bytesB_iff.2 ⟨hl, fun y hy => ?_⟩
  obtain ⟨x, hx, hm⟩ := List.mem_flatMap.1 hy
  split at hm
  · unfold endL at hm
    split at hm
    · simp at hm; omega
    · split at hm
      · simp at hm; omega
      · split at hm
        · simp at hm; omega
        · cases hm
  · simp at hm; subst hm; exact (bytesB_iff.1 h.1).2 _ hx
theorem noOk_mark {xs : List Int} {k : Int} (h : noOk xs k = true) : k = 1 ∨ k = 2 ∨ k = 4 := by
  rw [isMarkB, Bool.and_eq_true] at h
  have := h.2
  simp at this; omega
/-- NewlineIn in parts. -/
theorem nl_cut {held f : Bool} {s : Int} {xs : List Int} (k : Nat) (h : niOk s xs = true) :
    niH (niH held false s (xs.take k)) f (niS held false s (xs.take k)) (xs.drop k) = niH held f s xs ∧ niS (niH held false s (xs.take k)) f (niS held false s (xs.take k)) (xs.drop k) = niS held f s xs ∧
    niL held false s (xs.take k) ++ niL (niH held false s (xs.take k)) f (niS held false s (xs.take k)) (xs.drop k) = niL held f s xs ∧ (0 ≤ niS held false s (xs.take k) ∧ niS held false s (xs.take k) ≤ 7) := by
  have h' := h
  unfold niOk at h'
  rw [Bool.and_eq_true] at h'
  obtain ⟨h0, h7⟩ := inB_iff.1 h'.1
  have ok1 : niOk s (xs.take k) = true := ni_of h'.1 (bytesB_sub h'.2 (by rw [List.length_take]; omega) fun y hy => List.mem_of_mem_take hy)
  obtain ⟨a1, a2, a3⟩ := ni_yes (held := held) (f := false) ok1
  obtain ⟨c1, c2, c3⟩ := ni_yes (held := held) (f := f) h
  obtain ⟨r0, r7⟩ := nlS_in false (xs.take k) held s h0 h7
  have e : nlH held (xs.take k) = niH held false s (xs.take k) := by rw [a1]; simp
  have ok2 : niOk (niS held false s (xs.take k)) (xs.drop k) = true := ni_of (by rw [a2]; exact inB_true r0 r7) (bytesB_sub h'.2 (by rw [List.length_drop]; omega) fun y hy => List.mem_of_mem_drop hy)
  obtain ⟨b1, b2, b3⟩ := ni_yes (held := niH held false s (xs.take k)) (f := f) ok2
  obtain ⟨p1, p2, p3⟩ := nl_parts f (xs.take k) (xs.drop k) held s
  rw [List.take_append_drop, e] at p1 p2 p3
  refine ⟨?_, ?_, ?_, by rw [a2]; exact r0, by rw [a2]; exact r7⟩
  · rw [b1, c1, p2]
  · rw [b2, c2, p3, ← a2]
  · rw [a3, b3, c3, p1]
set_option maxHeartbeats 1000000 in
theorem lawIsIn_any {A : Option Addr} {n c : Nat} {xs : List Int} {z : Int} {w : World} {L B : Nat} (h : Ints w L B A n xs) :
    Calls Try.prog 21 #[.slice A n c, .int .i64 z] w (BoolB (decide (z ∈ xs)) w) := by
  have HL := Lib.hid h.len
  have hm := h.max
  go_enter Try.func21, Try.ntmps21
  go_wp2
  go_loop [5] (fun i => ∃ k : Nat, k ≤ n ∧ i = .int .i64 k ∧ Hid (∀ j x, j < k → xs[j]? = some x → x ≠ z)) (fun i => n - (intOf i).toNat)
  case atStart => exact ⟨0, Nat.zero_le _, rfl, fun j x hj => absurd hj (by omega)⟩
  case round =>
    obtain ⟨k, hk, rfl, HS⟩ := hrel
    by_cases hlt : k < n
    · obtain ⟨b, o, x, rfl, _, hc, hx⟩ := h.at_ hlt
      by_cases hxz : x = z
      · subst hxz
        go_wp2
        go_ret
        have hmem : x ∈ xs := List.mem_of_getElem? hx.out
        exact ⟨ret_bool (by simp [hmem]), Below.refl _ _⟩
      · have e : (x == z) = false := by simp [hxz]
        go_wp2
        go_round
        case rel => exact ⟨k + 1, by omega, by go_num, fun j y hj hy => by
          by_cases e : j = k
          · subst e; have h1 := hx.out; rw [h1] at hy; injection hy with hy; subst hy; exact hxz
          · exact HS.out j y (by omega) hy⟩
        case measure => simp [intOf]; omega
    · go_wp2
      go_ret
      have hnot : z ∉ xs := fun hm => by
        obtain ⟨j, hj, e⟩ := List.mem_iff_getElem.1 hm
        exact HS.out j z (by have := HL.out; omega) (by rw [List.getElem?_eq_getElem hj, e]) rfl
      exact ⟨ret_bool (by simp [hnot]), Below.refl _ _⟩
end Go.Proofs.Ytlekbmlacinkdaa
