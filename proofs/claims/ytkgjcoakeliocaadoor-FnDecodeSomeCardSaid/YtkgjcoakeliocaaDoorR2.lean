/- Plain facts of codes for the promise laws; answers by other names. -/
import Derived.Test.YtkgjcoakeliocaaDoorVA
import Derived.Test.YtkgjcoakeliocaaDoorVC
namespace Go.Proofs.YtkgjcoakeliocaaDoor
open Go.ChangeShapes Go.WideShapes Go.ChangeAt Go.RowKit
set_option linter.unusedSimpArgs false
set_option linter.unusedVariables false
set_option maxRecDepth 100000

theorem to_intN {f : Nat} {args : Array Value} {w : World} {a b : Int} (h : Calls Tryd.prog f args w (IntB a w)) (e : a = b) : Calls Tryd.prog f args w (IntB b w) := e ▸ h
theorem to_listN {f : Nat} {args : Array Value} {w : World} {a b : List Int} (h : Calls Tryd.prog f args w (ListPost a w)) (e : a = b) : Calls Tryd.prog f args w (ListPost b w) := e ▸ h
theorem to_lb {f : Nat} {args : Array Value} {w : World} {a a' : List Int} {b b' : Bool} (h : Calls Tryd.prog f args w (ListBPost a b w)) (e : (a, b) = (a', b')) : Calls Tryd.prog f args w (ListBPost a' b' w) := by
  injection e with e1 e2
  subst e1 e2
  exact h
theorem to_ds {f : Nat} {args : Array Value} {w : World} {d : Dec} {L : List Int} {z : Int} {b : Bool} (h : Calls Tryd.prog f args w (DsPost d w)) (e : d = (L, z, b)) : Calls Tryd.prog f args w (fun e w' => ∃ A n c, e = .returned (.tuple #[.slice A n c, .int .i64 z, .bool b]) ∧ n ≤ c ∧ Below w.heap.size w w' ∧ Ints w' w.heap.size w'.heap.size A n L) := by
  subst e
  exact h
theorem to_pure {f : Nat} {args : Array Value} {w : World} {a b : Bool} (h : Calls Tryd.prog f args w fun e w' => e = .returned (.bool a) ∧ w = w') (e : a = b) : Calls Tryd.prog f args w (fun e w' => e = .returned (.bool b) ∧ Below w.heap.size w w') :=
  h.mono fun e' w' hh => ⟨e ▸ hh.1, hh.2 ▸ Below.refl _ _⟩

/-! Points written, and read -/
theorem enc1_pos (p : Int) : 1 ≤ (enc1 p).length := by
  unfold enc1
  split
  · simp
  · split <;> simp
theorem encL_ge (xs : List Int) : xs.length ≤ (encL xs).length := by
  induction xs with
  | nil => simp [encL]
  | cons x xs ih =>
    have e : encL (x :: xs) = enc1 x ++ encL xs := by simp [encL]
    rw [e, List.length_append, List.length_cons]
    have := enc1_pos x
    omega
theorem encOut_yes {xs : List Int} (h : ptsB xs = true) : encOut xs = encL xs := by simp [encOut, h]
theorem encOut_no {xs : List Int} (h : ptsB xs = false) : encOut xs = [] := by simp [encOut, h]
theorem ptsB_all {xs : List Int} (h : ptsB xs = true) : xs.length ≤ 60 ∧ ∀ p ∈ xs, ptB p = true := by
  unfold ptsB at h
  rw [Bool.and_eq_true, List.all_eq_true] at h
  exact ⟨by simpa using h.1, h.2⟩
theorem ptsB_of {xs : List Int} (h1 : xs.length ≤ 60) (h2 : ∀ p ∈ xs, ptB p = true) : ptsB xs = true := by
  unfold ptsB
  rw [Bool.and_eq_true, List.all_eq_true]
  exact ⟨by simpa using h1, h2⟩
theorem encL_bytes {xs : List Int} (h : ∀ p ∈ xs, ptB p = true) (hl : (encL xs).length ≤ 60) : bytesB (encL xs) = true := by
  unfold bytesB
  rw [Bool.and_eq_true]
  refine ⟨by simpa using hl, ?_⟩
  unfold allB
  rw [List.all_eq_true]
  intro x hx
  obtain ⟨p, hp, hx⟩ := List.mem_flatMap.1 hx
  exact inB_iff.2 (enc1_byte (h p hp) x hx)
theorem rawP_low {b : Int} {r : List Int} (h : b < 128) : rawP (b :: r) = b :: rawP r := by
  cases r with
  | nil => simp [rawP, one, h]
  | cons c s => simp [rawP, notail (c := c) h, one, h]
theorem rawP_two {b c : Int} {r : List Int} (h : pairB b c = true) : rawP (b :: c :: r) = two b c :: rawP r := by simp [rawP, h]
theorem raw_enc : ∀ {xs : List Int}, (∀ p ∈ xs, 0 ≤ p ∧ p ≤ 2047) → rawP (encL xs) = xs
  | [], _ => by simp [encL, rawP]
  | p :: r, h => by
    have hp := h p List.mem_cons_self
    have ih := raw_enc (xs := r) (fun q hq => h q (List.mem_cons_of_mem _ hq))
    have e : encL (p :: r) = enc1 p ++ encL r := by simp [encL]
    rw [e]
    unfold enc1
    rw [if_neg (by omega)]
    by_cases h1 : p < 128
    · rw [if_pos h1, List.singleton_append, rawP_low h1, ih]
    · rw [if_neg h1]
      have hpp : pairB (192 + p / 64) (128 + p % 64) = true := pairB_iff.2 ⟨by omega, by omega⟩
      show rawP ((192 + p / 64) :: (128 + p % 64) :: encL r) = _
      rw [rawP_two hpp, ih]
      congr 1
      unfold two
      omega
theorem decP_low {m : Int} : ∀ {l : List Int}, (∀ p ∈ l, ¬ 2047 < p) → decP m l = (l, true)
  | [], _ => rfl
  | p :: r, h => by
    have hp := h p List.mem_cons_self
    have hk := kp_keep (m := m) (.inl hp)
    simp only [decP, hk.2, hk.1, Bool.false_eq_true, if_false, decP_low (l := r) (fun q hq => h q (List.mem_cons_of_mem _ hq))]
    rfl
theorem decP_all3 : ∀ (l : List Int), decP 3 l = (l, true)
  | [] => rfl
  | p :: r => by
    have hk := kp_keep (m := 3) (p := p) (.inr rfl)
    simp only [decP, hk.2, hk.1, Bool.false_eq_true, if_false, decP_all3 r]
    rfl
theorem decP_mark : ∀ (l : List Int), decP 2 l = (clL l, true)
  | [] => rfl
  | p :: r => by
    have h1 : stp 2 p = false := by simp [stp]
    have h2 : kp 2 p = [cl1 p] := by unfold kp cl1; split <;> simp
    simp only [decP, h1, h2, Bool.false_eq_true, if_false, decP_mark r]
    simp [clL]
theorem bdL_low {ys : List Int} (h : ∀ p ∈ rawP ys, ¬ 2047 < p) : bdL ys = -1 := by
  have : (seqP 0 ys).find? (fun x => decide (2047 < x.2)) = none := by
    rw [List.find?_eq_none]
    intro x hx
    have h2 : x.2 ∈ rawP ys := by rw [← seqP_raw ys 0]; exact List.mem_map_of_mem hx
    simpa using h x.2 h2
  unfold bdL
  rw [this]
theorem rawP_pt : ∀ (ys : List Int), allB ys 0 255 = true → ∀ p ∈ rawP ys, ptB p = true
  | [], _, p, hp => by simp [rawP] at hp
  | [b], h, p, hp => by
    rw [allB_cons, Bool.and_eq_true] at h
    have hb := inB_iff.1 h.1
    simp [rawP] at hp; subst hp
    unfold ptB one
    split
    · rw [inB_true (by omega) (by omega)]; rfl
    · rw [inB_true (lo := 3128) (by omega) (by omega), Bool.or_true]
  | b :: c :: r, h, p, hp => by
    have h' := h
    rw [allB_cons, Bool.and_eq_true] at h
    have hb := inB_iff.1 h.1
    simp only [rawP] at hp
    split at hp
    · rename_i hpp
      rcases List.mem_cons.1 hp with rfl | hp
      · have := two_in hpp; unfold ptB; rw [inB_true (by omega) (by omega)]; rfl
      · have h2 := h.2
        rw [allB_cons, Bool.and_eq_true] at h2
        exact rawP_pt r h2.2 p hp
    · rcases List.mem_cons.1 hp with rfl | hp
      · unfold ptB one
        split
        · rw [inB_true (by omega) (by omega)]; rfl
        · rw [inB_true (lo := 3128) (by omega) (by omega), Bool.or_true]
      · exact rawP_pt (c :: r) h.2 p hp
theorem enc_one {b : Int} (h : 0 ≤ b ∧ b ≤ 255) : enc1 (one b) = [b] := by
  unfold one
  by_cases h1 : b < 128
  · rw [if_pos h1]; unfold enc1; rw [if_neg (by omega), if_pos h1]
  · rw [if_neg h1]; unfold enc1; rw [if_pos (by omega)]; congr 1; omega
theorem enc_two {b c : Int} (h : pairB b c = true) : enc1 (two b c) = [b, c] := by
  have h1 := pairB_iff.1 h
  have h2 := two_in h
  unfold enc1
  rw [if_neg (by omega), if_neg (by omega)]
  unfold two
  congr 1
  · omega
  · congr 1; omega
theorem enc_raw : ∀ (ys : List Int), allB ys 0 255 = true → encL (rawP ys) = ys
  | [], _ => by simp [rawP, encL]
  | [b], h => by
    rw [allB_cons, Bool.and_eq_true] at h
    simp [rawP, encL, enc_one (inB_iff.1 h.1)]
  | b :: c :: r, h => by
    rw [allB_cons, Bool.and_eq_true] at h
    simp only [rawP]
    split
    · rename_i hpp
      have h2 := h.2
      rw [allB_cons, Bool.and_eq_true] at h2
      have e : encL (two b c :: rawP r) = enc1 (two b c) ++ encL (rawP r) := by simp [encL]
      rw [e, enc_two hpp, enc_raw r h2.2]
      rfl
    · have e : encL (one b :: rawP (c :: r)) = enc1 (one b) ++ encL (rawP (c :: r)) := by simp [encL]
      rw [e, enc_one (inB_iff.1 h.1), enc_raw (c :: r) h.2]
      rfl
/-! The answers of DecodeBytes -/
theorem db_no {m : Int} {xs : List Int} (h : (bytesB xs && inB m 0 3) = false) : ((dsR m true xs 0).1, (dsR m true xs 0).2.2) = (([] : List Int), false) := by
  rw [ds_no (by rw [dsOk_zero]; exact h)]
theorem db_yes {m : Int} {xs : List Int} (h : (bytesB xs && inB m 0 3) = true) : ((dsR m true xs 0).1, (dsR m true xs 0).2.2) = ((decB m xs).1, (decB m xs).2) := by
  rw [ds_all (by rw [dsOk_zero]; exact h)]
  rfl
theorem db_at {m : Int} {xs : List Int} (h : bytesB xs = true) (hm : inB m 0 3 = true) {L : List Int} {b : Bool} (e : decB m xs = (L, b)) : ((dsR m true xs 0).1, (dsR m true xs 0).2.2) = (L, b) := by
  rw [db_yes (by rw [h, hm]; rfl), e]
theorem bdOut_yes {xs : List Int} (h : bytesB xs = true) : bdOut xs = bdL xs := by simp [bdOut, h]
theorem bdOut_no {xs : List Int} (h : bytesB xs = false) : bdOut xs = -2 := by simp [bdOut, h]
/-! The machine over parts -/
theorem sm_app (m : Int) (f : Bool) (ys : List Int) : ∀ (xs : List Int) (ld : Int), sm m f (xs ++ ys) ld = if (sm m false xs ld).2.2 then put (sm m false xs ld).1 (sm m f ys (sm m false xs ld).2.1) else ((sm m false xs ld).1, 0, false)
  | [], ld => by simp [sm, put]
  | b :: r, ld => by
    have i0 := sm_app m f ys r 0
    have ib := sm_app m f ys r b
    have hput : ∀ (l : List Int) (d e : Dec), (e = if d.2.2 then put d.1 (sm m f ys d.2.1) else (d.1, 0, false)) → put l e = if (put l d).2.2 then put (put l d).1 (sm m f ys (put l d).2.1) else ((put l d).1, 0, false) := by
      intro l d e he
      rw [he]
      obtain ⟨d1, d2, d3⟩ := d
      cases d3 <;> simp [put]
    have hz : sm m f (b :: (r ++ ys)) 0 = if (sm m false (b :: r) 0).2.2 then put (sm m false (b :: r) 0).1 (sm m f ys (sm m false (b :: r) 0).2.1) else ((sm m false (b :: r) 0).1, 0, false) := by
      rw [sm_zero, sm_zero]
      by_cases h1 : b < 128
      · simp only [if_pos h1]; exact hput _ _ _ i0
      · simp only [if_neg h1]
        cases hl : leadB b
        · simp only [Bool.false_eq_true, if_false]
          by_cases hm : m = 0
          · simp only [if_pos hm]; rfl
          · simp only [if_neg hm]; exact hput _ _ _ i0
        · simp only [if_true]; exact ib
    by_cases hld : 0 < ld
    · rw [List.cons_append, sm_lead hld, sm_lead hld]
      cases ht : tailB b
      · simp only [Bool.false_eq_true, if_false]
        by_cases hm : m = 0
        · simp only [if_pos hm]; rfl
        · simp only [if_neg hm]; exact hput _ _ _ hz
      · simp only [if_true]; exact hput _ _ _ i0
    · rw [List.cons_append]
      have e1 : ∀ g (zs : List Int), sm m g (b :: zs) ld = sm m g (b :: zs) 0 := fun g zs => by
        rw [sm_zero]; simp [sm, hld]
      rw [e1, e1]
      exact hz
theorem sm_final {m : Int} {xs : List Int} {ld : Int} (hl : waitB ld = true) : (sm m true xs ld).2.1 = 0 := by
  by_cases h0 : ld = 0
  · subst h0
    rw [sm_dec m _ _ (Nat.le_refl _)]
    unfold cut
    simp
  · rw [sm_ahead (wait_zero hl h0), sm_dec m _ _ (Nat.le_refl _)]
    unfold cut
    simp
theorem sm_waits (m : Int) (f : Bool) : ∀ (xs : List Int) (ld : Int), waitB ld = true → waitB (sm m f xs ld).2.1 = true
  | [], ld, h => by
    rw [sm_nil]
    split
    · split <;> rfl
    · exact h
  | b :: r, ld, h => by
    have i0 := sm_waits m f r 0 rfl
    have hz : waitB (sm m f (b :: r) 0).2.1 = true := by
      rw [sm_zero]
      by_cases h1 : b < 128
      · rw [if_pos h1]; exact i0
      · rw [if_neg h1]
        cases hl : leadB b
        · rw [if_neg (by decide)]
          split
          · rfl
          · exact i0
        · rw [if_pos rfl]
          exact sm_waits m f r b (by simp [waitB, hl])
    by_cases h0 : ld = 0
    · subst h0; exact hz
    · have hl2 := leadB_iff.1 (wait_zero h h0)
      rw [sm_lead (by omega)]
      split
      · exact i0
      · split
        · rfl
        · exact hz
theorem kp_pt {m p : Int} (h : ptB p = true) : ∀ x ∈ kp m p, ptB x = true := by
  intro x hx
  unfold kp at hx
  split at hx
  · split at hx
    · simp at hx; subst hx; exact h
    · split at hx
      · simp at hx; subst hx; rfl
      · cases hx
  · simp at hx; subst hx; exact h
theorem decP_pt (m : Int) : ∀ l : List Int, (∀ p ∈ l, ptB p = true) → ∀ x ∈ (decP m l).1, ptB x = true
  | [], _, x, hx => by simp [decP] at hx
  | p :: r, h, x, hx => by
    simp only [decP] at hx
    split at hx
    · cases hx
    · rcases List.mem_append.1 hx with hx | hx
      · exact kp_pt (h p List.mem_cons_self) x hx
      · exact decP_pt m r (fun q hq => h q (List.mem_cons_of_mem _ hq)) x hx
theorem sm_pt {m lead : Int} {f : Bool} {xs : List Int} (hd : bytesB xs = true) (hl : waitB lead = true) : ∀ x ∈ (sm m f xs lead).1, ptB x = true := by
  have key : ∀ ys : List Int, allB ys 0 255 = true → ∀ x ∈ (sm m f ys 0).1, ptB x = true := fun ys hy x hx => by
    cases f
    · rw [sm_wait m _ _ (Nat.le_refl _)] at hx
      refine decP_pt m _ (rawP_pt _ ?_) x hx
      unfold body
      split
      · exact hy
      · exact allB_take hy _
    · rw [sm_dec m _ _ (Nat.le_refl _)] at hx
      exact decP_pt m _ (rawP_pt _ hy) x hx
  by_cases h0 : lead = 0
  · subst h0
    exact key xs (bytesB_all hd)
  · rw [sm_ahead (wait_zero hl h0)]
    exact key _ (bytes1_cons (wait_zero hl h0) hd).2
theorem bytesB_take {xs : List Int} (h : bytesB xs = true) (k : Nat) : bytesB (xs.take k) = true := by
  unfold bytesB
  rw [Bool.and_eq_true]
  exact ⟨by have := bytesB_le h; rw [List.length_take]; simp; omega, allB_take (bytesB_all h) k⟩
theorem bytesB_drop {xs : List Int} (h : bytesB xs = true) (k : Nat) : bytesB (xs.drop k) = true := by
  unfold bytesB
  rw [Bool.and_eq_true]
  exact ⟨by have := bytesB_le h; rw [List.length_drop]; simp; omega, allB_drop (bytesB_all h) k⟩
/-! The first wrong byte -/
def badI : List Int → Option Nat
  | [] => none
  | [b] => if b < 128 then none else some 0
  | b :: c :: r => if pairB b c then (badI r).map (· + 2) else if b < 128 then (badI (c :: r)).map (· + 1) else some 0
theorem bdQ_bad : ∀ (ys : List Int) (i : Nat), bdQ (seqP i ys) = match badI ys with | some t => ((i + t : Nat) : Int) | none => -1
  | [], i => rfl
  | [b], i => by
    by_cases h : b < 128
    · simp only [seqP, badI, one, if_pos h]; rw [bdQ_pass (by show ¬ 2047 < b; omega)]; rfl
    · simp only [seqP, badI, one, if_neg h]; rw [bdQ_hit (by show 2047 < 3000 + b; omega)]; rfl
  | b :: c :: r, i => by
    simp only [seqP, badI]
    by_cases hp : pairB b c = true
    · have h2 := two_in hp
      rw [if_pos hp, if_pos hp, bdQ_pass (by show ¬ 2047 < two b c; omega), bdQ_bad r (i + 2)]
      cases badI r with
      | none => rfl
      | some t => show ((i + 2 + t : Nat) : Int) = ((i + (t + 2) : Nat) : Int); congr 1; omega
    · rw [if_neg hp, if_neg hp]
      by_cases h : b < 128
      · rw [if_pos h, bdQ_pass (by show ¬ 2047 < one b; rw [one_low h]; omega), bdQ_bad (c :: r) (i + 1)]
        cases badI (c :: r) with
        | none => rfl
        | some t => show ((i + 1 + t : Nat) : Int) = ((i + (t + 1) : Nat) : Int); congr 1; omega
      · rw [if_neg h, bdQ_hit (by show 2047 < one b; unfold one; rw [if_neg h]; omega)]
        rfl
theorem bdL_bad (ys : List Int) : bdL ys = match badI ys with | some t => ((t : Nat) : Int) | none => -1 := by
  rw [bdL_q, bdQ_bad]
  cases badI ys with
  | none => rfl
  | some t => show ((0 + t : Nat) : Int) = _; rw [Nat.zero_add]
theorem bad_none : ∀ {ys : List Int}, badI ys = none → ∀ p ∈ rawP ys, ¬ 2047 < p
  | [], _, p, hp => by simp [rawP] at hp
  | [b], h, p, hp => by
    unfold badI at h
    split at h
    · rename_i h1; simp [rawP, one, h1] at hp; omega
    · cases h
  | b :: c :: r, h, p, hp => by
    unfold badI at h
    split at h
    · rename_i hpp
      rw [rawP_two hpp] at hp
      have h2 := two_in hpp
      rcases List.mem_cons.1 hp with rfl | hp
      · omega
      · exact bad_none (by simpa using h) p hp
    · rename_i hpp
      split at h
      · rename_i h1
        rw [rawP_low h1] at hp
        rcases List.mem_cons.1 hp with rfl | hp
        · omega
        · exact bad_none (by simpa using h) p hp
      · cases h
/-- What is ahead of the first wrong byte, and with it. -/
theorem bad_some : ∀ {ys : List Int} {t : Nat}, badI ys = some t → t < ys.length ∧ ∃ L q r, rawP ys = L ++ q :: r ∧ (∀ p ∈ L, ¬ 2047 < p) ∧ 2047 < q ∧ rawP (ys.take t) = L ∧ (∃ q2 r2, rawP (ys.take (t + 1)) = L ++ q2 :: r2 ∧ 2047 < q2)
  | [], t, h => by cases h
  | [b], t, h => by
    unfold badI at h
    split at h
    · cases h
    · rename_i h1
      injection h with h
      subst h
      have e : rawP [b] = [3000 + b] := by simp [rawP, one, h1]
      exact ⟨by simp, [], 3000 + b, [], e, by simp, by omega, rfl, 3000 + b, [], e, by omega⟩
  | b :: c :: r, t, h => by
    unfold badI at h
    split at h
    · rename_i hpp
      obtain ⟨s, hs, rfl⟩ := Option.map_eq_some_iff.1 h
      obtain ⟨h1, L, q, r1, e1, hL, hq, e2, q2, r2, e3, hq2⟩ := bad_some hs
      have h2 := two_in hpp
      refine ⟨by simp; omega, two b c :: L, q, r1, by rw [rawP_two hpp, e1]; rfl, fun p hp => ?_, hq, ?_, q2, r2, ?_, hq2⟩
      · rcases List.mem_cons.1 hp with rfl | hp
        · omega
        · exact hL p hp
      · show rawP (b :: c :: r.take s) = _
        rw [rawP_two hpp, e2]
      · show rawP (b :: c :: r.take (s + 1)) = _
        rw [rawP_two hpp, e3]; rfl
    · rename_i hpp
      split at h
      · rename_i h0
        obtain ⟨s, hs, rfl⟩ := Option.map_eq_some_iff.1 h
        obtain ⟨h1, L, q, r1, e1, hL, hq, e2, q2, r2, e3, hq2⟩ := bad_some hs
        refine ⟨by simp at h1 ⊢; omega, b :: L, q, r1, by rw [rawP_low h0, e1]; rfl, fun p hp => ?_, hq, ?_, q2, r2, ?_, hq2⟩
        · rcases List.mem_cons.1 hp with rfl | hp
          · omega
          · exact hL p hp
        · show rawP (b :: (c :: r).take s) = _
          rw [rawP_low h0, e2]
        · show rawP (b :: (c :: r).take (s + 1)) = _
          rw [rawP_low h0, e3]; rfl
      · rename_i h0
        injection h with h
        subst h
        have e : rawP (b :: c :: r) = (3000 + b) :: rawP (c :: r) := by simp [rawP, hpp, one, h0]
        exact ⟨by simp, [], 3000 + b, rawP (c :: r), e, by simp, by omega, rfl, 3000 + b, [], by simp [rawP, one, h0], by omega⟩
theorem decP_first {L r : List Int} {q : Int} (hL : ∀ p ∈ L, ¬ 2047 < p) (hq : 2047 < q) : decP 0 (L ++ q :: r) = (L, false) := by
  have h1 : Runs 0 L := fun p hp => (kp_keep (m := 0) (.inl (hL p hp))).2
  rw [decP_runs h1]
  have h2 : madeL 0 L = L := by
    have := decP_runs h1 []
    rw [List.append_nil, decP_low hL] at this
    simpa [decP] using (Prod.mk.inj this).1.symm
  simp [decP, kp_stop hq, h2]
/-! How many points there are -/
theorem seqP_raw_len (ys : List Int) : (seqP 0 ys).length = (rawP ys).length := by rw [← seqP_raw ys 0, List.length_map]
theorem rawP_half : ∀ ys : List Int, ys.length ≤ 2 * (rawP ys).length
  | [] => by simp
  | [b] => by simp [rawP]
  | b :: c :: r => by
    simp only [rawP]
    split
    · have := rawP_half r; simp only [List.length_cons]; omega
    · have := rawP_half (c :: r); simp only [List.length_cons] at *; omega
theorem cp_len (xs : List Int) : (decB 2 xs).1.length = (rawP xs).length := by unfold decB; rw [decP_mark]; exact clL_len _
theorem pl_len (xs : List Int) : (plL xs).length = (rawP xs).length := by unfold plL; rw [List.length_map, seqP_raw_len]
theorem drop_less : ∀ {l : List Int}, (∃ p ∈ l, 2047 < p) → (decP 1 l).1.length < l.length
  | [], h => by obtain ⟨p, hp, _⟩ := h; cases hp
  | p :: r, h => by
    have h1 : stp 1 p = false := by simp [stp]
    simp only [decP, h1, Bool.false_eq_true, if_false, List.length_append, List.length_cons]
    by_cases hp : 2047 < p
    · have h2 : kp 1 p = [] := by simp [kp, hp]
      have := decP_len 1 r
      rw [h2]; simp; omega
    · have h2 : (kp 1 p).length ≤ 1 := kp_len 1 p
      have := drop_less (l := r) (by obtain ⟨q, hq, hq2⟩ := h; rcases List.mem_cons.1 hq with rfl | hq; exact absurd hq2 hp; exact ⟨q, hq, hq2⟩)
      omega
theorem sm_len0 (m : Int) (f : Bool) (xs : List Int) : (sm m f xs 0).1.length ≤ xs.length := by
  cases f
  · rw [sm_wait m _ _ (Nat.le_refl _)]
    have h1 := decB_len m (body xs)
    have h2 : (body xs).length ≤ xs.length := by
      unfold body
      split
      · exact Nat.le_refl _
      · rw [List.length_take]; omega
    show (decB m (body xs)).1.length ≤ xs.length
    omega
  · rw [sm_dec m _ _ (Nat.le_refl _)]
    exact decB_len m xs
theorem ds_cons {m lead : Int} {f : Bool} {xs : List Int} (h : dsOk xs lead m = true) (h0 : ¬ lead = 0) (hl : xs.length < 60) : dsR m f (lead :: xs) 0 = sm m f xs lead := by
  unfold dsOk at h
  rw [Bool.and_eq_true, Bool.and_eq_true] at h
  have hlead := wait_zero h.2.1 h0
  have hb : bytesB (lead :: xs) = true := by
    unfold bytesB
    rw [Bool.and_eq_true]
    exact ⟨by simp; omega, (bytes1_cons hlead h.1).2⟩
  rw [ds_yes (by rw [dsOk_zero, hb, h.2.2]; rfl), sm_ahead hlead]
theorem dsOk_parts {m lead : Int} {xs : List Int} (h : dsOk xs lead m = true) : bytesB xs = true ∧ waitB lead = true ∧ inB m 0 3 = true := by
  unfold dsOk at h
  rw [Bool.and_eq_true, Bool.and_eq_true] at h
  exact ⟨h.1, h.2.1, h.2.2⟩
theorem clL_low {L : List Int} (h : ∀ p ∈ L, ¬ 2047 < p) : clL L = L := by
  unfold clL
  conv => rhs; rw [← List.map_id L]
  exact List.map_congr_left (fun p hp => by simp [cl1, h p hp])
theorem mark_begins {L r : List Int} {q : Int} (h : ∀ p ∈ L, ¬ 2047 < p) : L.isPrefixOf (clL (L ++ q :: r)) = true := by
  rw [List.isPrefixOf_iff_prefix]
  have e : clL (L ++ q :: r) = clL L ++ clL (q :: r) := by simp [clL]
  rw [e, clL_low h]
  exact List.prefix_append _ _
/-- The last one of places that is not behind i. -/
def bestL (l : List Int) (i : Int) : Int := l.foldl (fun b p => if p ≤ i then p else b) (-1)
theorem bestL_snoc {l : List Int} {p i : Int} : bestL (l ++ [p]) i = if p ≤ i then p else bestL l i := by simp [bestL]
theorem bestL_at {l : List Int} {k : Nat} {p i : Int} (h : l[k]? = some p) : bestL (l.take (k + 1)) i = if p ≤ i then p else bestL (l.take k) i := by rw [take_snoc h, bestL_snoc]
theorem best_to (xs : List Int) (i : Nat) : ∀ j : Nat, bestL (plTo xs j) (i : Int) = bestL (plTo xs (min j (i + 1))) (i : Int)
  | 0 => by simp
  | j + 1 => by
    by_cases h : j ≤ i
    · rw [Nat.min_eq_left (by omega)]
    · have ih := best_to xs i j
      rw [Nat.min_eq_right (by omega)] at ih ⊢
      cases hp : prB xs j
      · rw [plTo_yes hp, bestL_snoc, if_neg (by omega), ih]
      · rw [plTo_no hp, ih]
theorem best_sync {xs : List Int} {i : Nat} (hi : i < xs.length) : bestL (plL xs) (i : Int) = syL xs i := by
  rw [← plTo_all (n := xs.length) rfl, best_to, Nat.min_eq_right (by omega), syL_pr]
  cases hp : prB xs i
  · rw [plTo_yes hp, bestL_snoc, if_pos (by omega)]
    simp
  · rw [plTo_no hp, if_pos rfl]
    have h0 : i ≠ 0 := fun e => by subst e; cases hp
    obtain ⟨j, rfl⟩ : ∃ j, i = j + 1 := ⟨i - 1, by omega⟩
    have hq : prB xs j = false := by
      obtain ⟨b, hb⟩ : ∃ b, xs[j]? = some b := ⟨xs[j], List.getElem?_eq_getElem (by omega)⟩
      obtain ⟨c, hc⟩ : ∃ c, xs[j + 1]? = some c := ⟨xs[j + 1], List.getElem?_eq_getElem hi⟩
      rw [prB_at hb hc] at hp
      cases hj : prB xs j
      · rfl
      · cases j with
        | zero => cases hj
        | succ t =>
          obtain ⟨a, ha⟩ : ∃ a, xs[t]? = some a := ⟨xs[t], List.getElem?_eq_getElem (by omega)⟩
          rw [prB_at ha hb] at hj
          rw [tail_nolead hj] at hp
          cases hp
    rw [plTo_yes hq, bestL_snoc, if_pos (by omega)]
    omega
theorem syL_near (xs : List Int) (i : Nat) : 0 ≤ syL xs i ∧ (i : Int) - 1 ≤ syL xs i ∧ syL xs i ≤ (i : Int) := by
  rw [syL_pr]
  split
  · rename_i h
    have : i ≠ 0 := fun e => by subst e; cases h
    omega
  · omega
theorem sy_yes {xs : List Int} {i : Int} (h : bytesB xs = true) (hi : inB i 0 ((xs.length : Int) - 1) = true) : syOut xs i = syL xs i.toNat := by simp [syOut, h, hi]
theorem sy_no {xs : List Int} {i : Int} (h : (bytesB xs && inB i 0 ((xs.length : Int) - 1)) = false) : syOut xs i = -1 := by simp [syOut, h]
end Go.Proofs.YtkgjcoakeliocaaDoor
