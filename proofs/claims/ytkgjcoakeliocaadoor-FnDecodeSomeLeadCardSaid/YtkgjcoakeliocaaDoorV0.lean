/- Codes as plain functions of lists, and lemmas on them. -/
import Derived.Test.YtkgjcoakeliocaaDoorBase
namespace Go.Proofs.YtkgjcoakeliocaaDoor
set_option linter.unusedSimpArgs false
set_option linter.unusedVariables false

/-- A byte that begins a point of two bytes. -/
def leadB (b : Int) : Bool := inB b 194 223
/-- A byte that ends a point of two bytes. -/
def tailB (b : Int) : Bool := inB b 128 191
def pairB (b c : Int) : Bool := leadB b && tailB c
/-- What a number is to a point. -/
def partN (n : Int) : Int := if n < 0 then 0 else if n < 128 then 1 else if n < 192 then 3 else if n < 194 then 0 else if n < 224 then 2 else 0
theorem part_two (n : Int) : (partN n == 2) = leadB n := by
  unfold partN leadB inB
  by_cases h1 : n < 0
  · simp [h1]; omega
  · by_cases h2 : n < 128
    · simp [h1, h2]; omega
    · by_cases h3 : n < 192
      · simp [h1, h2, h3]; omega
      · by_cases h4 : n < 194
        · simp [h1, h2, h3, h4]; omega
        · by_cases h5 : n < 224
          · simp [h1, h2, h3, h4, h5]; omega
          · simp [h1, h2, h3, h4, h5]; omega
theorem part_three (n : Int) : (partN n == 3) = tailB n := by
  unfold partN tailB inB
  by_cases h1 : n < 0
  · simp [h1]; omega
  · by_cases h2 : n < 128
    · simp [h1, h2]; omega
    · by_cases h3 : n < 192
      · simp [h1, h2, h3]; omega
      · by_cases h4 : n < 194
        · simp [h1, h2, h3, h4]; omega
        · by_cases h5 : n < 224
          · simp [h1, h2, h3, h4, h5]; omega
          · simp [h1, h2, h3, h4, h5]; omega
theorem part_one {n : Int} (h : 0 ≤ n) : (partN n == 1) = decide (n < 128) := by
  unfold partN
  by_cases h1 : n < 0
  · omega
  · by_cases h2 : n < 128
    · simp [h1, h2]
    · by_cases h3 : n < 192
      · simp [h1, h2, h3]
      · by_cases h4 : n < 194
        · simp [h1, h2, h3, h4]
        · by_cases h5 : n < 224
          · simp [h1, h2, h3, h4, h5]
          · simp [h1, h2, h3, h4, h5]
theorem leadB_iff {b : Int} : leadB b = true ↔ 194 ≤ b ∧ b ≤ 223 := inB_iff
theorem tailB_iff {b : Int} : tailB b = true ↔ 128 ≤ b ∧ b ≤ 191 := inB_iff
theorem pairB_iff {b c : Int} : pairB b c = true ↔ (194 ≤ b ∧ b ≤ 223) ∧ (128 ≤ c ∧ c ≤ 191) := by
  unfold pairB; rw [Bool.and_eq_true, leadB_iff, tailB_iff]
/-- The point of two bytes, and of one: kept if it is wrong. -/
def two (b c : Int) : Int := (b - 192) * 64 + c - 128
def one (b : Int) : Int := if b < 128 then b else 3000 + b
theorem two_in {b c : Int} (h : pairB b c = true) : 128 ≤ two b c ∧ two b c ≤ 2047 := by
  have := pairB_iff.1 h; unfold two; omega
/-- Points, each with the index where it begins. -/
def seqP : Nat → List Int → List (Nat × Int)
  | _, [] => []
  | i, [b] => [(i, one b)]
  | i, b :: c :: r => if pairB b c then (i, two b c) :: seqP (i + 2) r else (i, one b) :: seqP (i + 1) (c :: r)
/-- Points, wrong bytes kept. -/
def rawP : List Int → List Int
  | [] => []
  | [b] => [one b]
  | b :: c :: r => if pairB b c then two b c :: rawP r else one b :: rawP (c :: r)
/-- The first point, and of how many bytes it is. -/
def fpt : List Int → Int
  | [] => 0
  | [b] => one b
  | b :: c :: _ => if pairB b c then two b c else one b
def fsz : List Int → Nat
  | b :: c :: _ => if pairB b c then 2 else 1
  | _ => 1
theorem fsz_cases (ys : List Int) : fsz ys = 1 ∨ fsz ys = 2 := by
  unfold fsz
  split
  · split
    · exact .inr rfl
    · exact .inl rfl
  · exact .inl rfl
theorem fsz_le {ys : List Int} (h : ys ≠ []) : fsz ys ≤ ys.length := by
  match ys, h with
  | [b], _ => simp [fsz]
  | b :: c :: r, _ => simp only [fsz, List.length_cons]; split <;> omega
theorem seqP_step {ys : List Int} (h : ys ≠ []) (i : Nat) : seqP i ys = (i, fpt ys) :: seqP (i + fsz ys) (ys.drop (fsz ys)) := by
  match ys, h with
  | [b], _ => simp [seqP, fpt, fsz]
  | b :: c :: r, _ =>
    simp only [seqP, fpt, fsz]
    split
    · simp
    · simp
theorem rawP_step {ys : List Int} (h : ys ≠ []) : rawP ys = fpt ys :: rawP (ys.drop (fsz ys)) := by
  match ys, h with
  | [b], _ => simp [rawP, fpt, fsz]
  | b :: c :: r, _ =>
    simp only [rawP, fpt, fsz]
    split
    · simp
    · simp
theorem seqP_raw : ∀ (ys : List Int) (i : Nat), (seqP i ys).map (·.2) = rawP ys
  | [], _ => by simp [seqP, rawP]
  | [b], _ => by simp [seqP, rawP]
  | b :: c :: r, i => by
    simp only [seqP, rawP]
    split
    · simp [seqP_raw r (i + 2)]
    · simp [seqP_raw (c :: r) (i + 1)]
theorem seqP_len : ∀ (ys : List Int) (i : Nat), (seqP i ys).length ≤ ys.length
  | [], _ => by simp [seqP]
  | [b], _ => by simp [seqP]
  | b :: c :: r, i => by
    simp only [seqP]
    split
    · have := seqP_len r (i + 2); simp only [List.length_cons]; omega
    · have := seqP_len (c :: r) (i + 1); simp only [List.length_cons] at *; omega
theorem rawP_len (ys : List Int) : (rawP ys).length ≤ ys.length := by
  have := seqP_len ys 0; rw [← seqP_raw ys 0, List.length_map]; exact this
/-- A number that may come of bytes. -/
def ptOk (p : Int) : Prop := 0 ≤ p ∧ p ≤ 3255
theorem one_ok {b : Int} (h : inB b 0 255 = true) : ptOk (one b) := by
  have := inB_iff.1 h; unfold ptOk one; split <;> omega
theorem allB_cons {x : Int} {xs : List Int} {lo hi : Int} : allB (x :: xs) lo hi = (inB x lo hi && allB xs lo hi) := by simp [allB]
theorem fpt_ok {ys : List Int} (h : allB ys 0 255 = true) : ptOk (fpt ys) := by
  match ys, h with
  | [], _ => exact ⟨by decide, by decide⟩
  | [b], h => rw [allB_cons, Bool.and_eq_true] at h; exact one_ok h.1
  | b :: c :: r, h =>
    rw [allB_cons, Bool.and_eq_true] at h
    simp only [fpt]
    split
    · rename_i hp; have := two_in hp; unfold ptOk; omega
    · exact one_ok h.1
theorem allB_drop {xs : List Int} {lo hi : Int} (h : allB xs lo hi = true) (k : Nat) : allB (xs.drop k) lo hi = true := by
  unfold allB at *; rw [List.all_eq_true] at *; exact fun x hx => h x (List.mem_of_mem_drop hx)
theorem allB_take {xs : List Int} {lo hi : Int} (h : allB xs lo hi = true) (k : Nat) : allB (xs.take k) lo hi = true := by
  unfold allB at *; rw [List.all_eq_true] at *; exact fun x hx => h x (List.mem_of_mem_take hx)
theorem rawP_ok : ∀ (ys : List Int), allB ys 0 255 = true → ∀ p ∈ rawP ys, ptOk p
  | [], _, p, hp => by simp [rawP] at hp
  | [b], h, p, hp => by
    rw [allB_cons, Bool.and_eq_true] at h
    simp [rawP] at hp; subst hp; exact one_ok h.1
  | b :: c :: r, h, p, hp => by
    have h' := h
    rw [allB_cons, Bool.and_eq_true] at h
    simp only [rawP] at hp
    split at hp
    · rename_i hpp
      rcases List.mem_cons.1 hp with rfl | hp
      · have := two_in hpp; unfold ptOk; omega
      · have h2 := h.2
        rw [allB_cons, Bool.and_eq_true] at h2
        exact rawP_ok r h2.2 p hp
    · rcases List.mem_cons.1 hp with rfl | hp
      · exact one_ok h.1
      · exact rawP_ok (c :: r) h.2 p hp

/-- What a way to decode makes of one point, and whether it stops there. -/
def kp (m p : Int) : List Int := if 2047 < p then (if m = 3 then [p] else if m = 2 then [2047] else []) else [p]
def stp (m p : Int) : Bool := decide (2047 < p) && decide (m = 0)
/-- Points in a way to decode, and whether that is possible. -/
def decP (m : Int) : List Int → List Int × Bool
  | [] => ([], true)
  | p :: r => if stp m p then ([], false) else (kp m p ++ (decP m r).1, (decP m r).2)
def decB (m : Int) (ys : List Int) : List Int × Bool := decP m (rawP ys)
theorem kp_len (m p : Int) : (kp m p).length ≤ 1 := by
  unfold kp
  split
  · split
    · simp
    · split <;> simp
  · simp
theorem decP_len (m : Int) : ∀ l : List Int, (decP m l).1.length ≤ l.length
  | [] => by simp [decP]
  | p :: r => by
    simp only [decP]
    split
    · simp
    · have := decP_len m r; have := kp_len m p; simp only [List.length_append, List.length_cons]; omega
theorem decB_len (m : Int) (ys : List Int) : (decB m ys).1.length ≤ ys.length := Nat.le_trans (decP_len m _) (rawP_len ys)
theorem kp_ok {m p : Int} (h : ptOk p) : ∀ x ∈ kp m p, ptOk x := by
  intro x hx
  unfold kp at hx
  split at hx
  · split at hx
    · simp at hx; subst hx; exact h
    · split at hx
      · simp at hx; subst hx; exact ⟨by decide, by decide⟩
      · cases hx
  · simp at hx; subst hx; exact h
theorem decP_ok (m : Int) : ∀ l : List Int, (∀ p ∈ l, ptOk p) → ∀ x ∈ (decP m l).1, ptOk x
  | [], _, x, hx => by simp [decP] at hx
  | p :: r, h, x, hx => by
    simp only [decP] at hx
    split at hx
    · cases hx
    · rcases List.mem_append.1 hx with hx | hx
      · exact kp_ok (h p List.mem_cons_self) x hx
      · exact decP_ok m r (fun q hq => h q (List.mem_cons_of_mem _ hq)) x hx
theorem ptOk_int {x : Int} (h : ptOk x) : okInt x := by unfold ptOk at h; unfold okInt; omega
theorem decB_ok {m : Int} {ys : List Int} (h : allB ys 0 255 = true) : ∀ x ∈ (decB m ys).1, okInt x := fun x hx => ptOk_int (decP_ok m _ (rawP_ok ys h) x hx)

/-! The model's machine -/
def wrg (m b : Int) : List Int := if m = 2 then [2047] else if m = 3 then [3000 + b] else []
abbrev Dec : Type := List Int × Int × Bool
def put (l : List Int) (d : Dec) : Dec := (l ++ d.1, d.2.1, d.2.2)
def stop0 : Dec := ([], 0, false)
/-- Bytes with one that waits ahead of them. -/
def sm (m : Int) (f : Bool) : List Int → Int → Dec
  | [], lead => if decide (0 < lead) && f then (if m = 0 then stop0 else (wrg m lead, 0, true)) else ([], lead, true)
  | b :: r, lead =>
    let z := if b < 128 then put [b] (sm m f r 0) else if leadB b then sm m f r b else if m = 0 then stop0 else put (wrg m b) (sm m f r 0)
    if 0 < lead then (if tailB b then put [64 * (lead - 192) + b - 128] (sm m f r 0) else if m = 0 then stop0 else put (wrg m lead) z) else z
theorem sm_zero {m : Int} {f : Bool} {b : Int} {r : List Int} : sm m f (b :: r) 0 = if b < 128 then put [b] (sm m f r 0) else if leadB b then sm m f r b else if m = 0 then stop0 else put (wrg m b) (sm m f r 0) := by
  simp [sm]
theorem sm_lead {m : Int} {f : Bool} {b lead : Int} {r : List Int} (h : 0 < lead) : sm m f (b :: r) lead = if tailB b then put [64 * (lead - 192) + b - 128] (sm m f r 0) else if m = 0 then stop0 else put (wrg m lead) (sm m f (b :: r) 0) := by
  simp only [sm_zero]
  simp [sm, h]
theorem sm_nil {m : Int} {f : Bool} {lead : Int} : sm m f [] lead = if decide (0 < lead) && f then (if m = 0 then stop0 else (wrg m lead, 0, true)) else ([], lead, true) := by simp [sm]
theorem sm_ahead {m : Int} {f : Bool} {lead : Int} (h : leadB lead = true) (ys : List Int) : sm m f ys lead = sm m f (lead :: ys) 0 := by
  have := leadB_iff.1 h
  rw [sm_zero, if_neg (by omega), if_pos h]
def cut (d : List Int × Bool) (k : Int) : Dec := (d.1, (if d.2 then k else 0), d.2)
theorem put_cut (l : List Int) (d : List Int × Bool) (k : Int) : put l (cut d k) = cut (l ++ d.1, d.2) k := rfl
theorem kp_low {m b : Int} (h : b < 128) : kp m b = [b] ∧ stp m b = false := by
  unfold kp stp
  rw [if_neg (by omega)]
  simp; omega
theorem one_low {b : Int} (h : b < 128) : one b = b := by simp [one, h]
theorem kp_one {m b : Int} (h : ¬ b < 128) : kp m (one b) = wrg m b ∧ stp m (one b) = decide (m = 0) := by
  have h1 : one b = 3000 + b := by simp [one, h]
  have h2 : (2047 : Int) < 3000 + b := by omega
  unfold kp stp wrg
  rw [h1, if_pos h2]
  refine ⟨?_, by simp [h2]⟩
  by_cases h3 : m = 3
  · subst h3; simp
  · by_cases h4 : m = 2
    · subst h4; simp
    · simp [h3, h4]
theorem kp_two {m b c : Int} (h : pairB b c = true) : kp m (two b c) = [64 * (b - 192) + c - 128] ∧ stp m (two b c) = false := by
  have h1 := two_in h
  unfold kp stp
  rw [if_neg (by omega)]
  refine ⟨by unfold two; rw [Int.mul_comm], by simp; omega⟩
theorem decB_one (m b : Int) (r : List Int) (h : ∀ c s, r = c :: s → pairB b c = false) : decB m (b :: r) = if stp m (one b) then ([], false) else (kp m (one b) ++ (decB m r).1, (decB m r).2) := by
  unfold decB
  cases r with
  | nil => simp [rawP, decP]
  | cons c s => simp only [rawP]; rw [if_neg (by rw [h c s rfl]; decide)]; simp only [decP]
theorem decB_two (m b c : Int) (r : List Int) (h : pairB b c = true) : decB m (b :: c :: r) = (two b c :: (decB m r).1, (decB m r).2) := by
  unfold decB
  simp only [rawP]
  rw [if_pos h]
  simp only [decP]
  rw [if_neg (by rw [(kp_two (m := m) h).2]; decide), (kp_two (m := m) h).1]
  simp [two, Int.mul_comm]
theorem notail {b c : Int} (h : b < 128) : pairB b c = false := by
  cases hp : pairB b c with
  | false => rfl
  | true => have := pairB_iff.1 hp; omega
/-- The machine, no byte waiting: all at the end, and with the byte that would wait cut off. -/
theorem sm_dec (m : Int) : ∀ (n : Nat) (ys : List Int), ys.length ≤ n → sm m true ys 0 = cut (decB m ys) 0 := by
  intro n
  induction n with
  | zero =>
    intro ys h
    obtain rfl : ys = [] := List.eq_nil_of_length_eq_zero (by omega)
    simp [sm, cut, decB, rawP, decP]
  | succ n ih =>
    intro ys h
    cases ys with
    | nil => simp [sm, cut, decB, rawP, decP]
    | cons b r =>
      simp only [List.length_cons] at h
      rw [sm_zero]
      by_cases h1 : b < 128
      · rw [if_pos h1, ih r (by omega), put_cut, decB_one m b r (fun c s _ => notail h1), one_low h1, (kp_low (m := m) h1).2, (kp_low (m := m) h1).1]
        rfl
      · rw [if_neg h1]
        cases hl : leadB b with
        | false =>
          have hp : ∀ c s, r = c :: s → pairB b c = false := fun c s _ => by simp [pairB, hl]
          rw [if_neg (by decide), decB_one m b r hp, (kp_one (m := m) h1).2, (kp_one (m := m) h1).1]
          by_cases hm : m = 0
          · simp [hm, stop0, cut]
          · rw [if_neg hm, ih r (by omega), put_cut, if_neg (by simp [hm])]
        | true =>
          rw [if_pos rfl]
          have hb := leadB_iff.1 hl
          cases r with
          | nil =>
            rw [sm_nil, decB_one m b [] (fun c s e => by cases e), (kp_one (m := m) h1).2, (kp_one (m := m) h1).1]
            have hz : decide (0 < b) = true := by simp; omega
            by_cases hm : m = 0
            · simp [hm, stop0, cut, hz]
            · simp [hm, hz, cut, decB, rawP, decP]
          | cons c s =>
            simp only [List.length_cons] at h
            rw [sm_lead (by omega)]
            cases ht : tailB c with
            | true =>
              have hp : pairB b c = true := by simp [pairB, hl, ht]
              rw [if_pos rfl, ih s (by omega), put_cut, decB_two m b c s hp]
              simp [two, Int.mul_comm]
            | false =>
              have hp : ∀ c' s', c :: s = c' :: s' → pairB b c' = false := fun c' s' e => by
                injection e with e1 e2
                subst e1
                simp [pairB, ht]
              rw [if_neg (by decide), decB_one m b _ hp, (kp_one (m := m) h1).2, (kp_one (m := m) h1).1]
              by_cases hm : m = 0
              · simp [hm, stop0, cut]
              · rw [if_neg hm, ih _ (by simp only [List.length_cons]; omega), put_cut, if_neg (by simp [hm])]
/-- The last byte, if it begins a point. -/
def lastLead : List Int → Int
  | [] => 0
  | [b] => if leadB b then b else 0
  | _ :: c :: r => lastLead (c :: r)
theorem lastLead_cons {b : Int} {r : List Int} (h : r ≠ []) : lastLead (b :: r) = lastLead r := by
  cases r with
  | nil => exact absurd rfl h
  | cons c s => rfl
def body (ys : List Int) : List Int := if lastLead ys = 0 then ys else ys.take (ys.length - 1)
theorem body_cons {b : Int} {r : List Int} (h : r ≠ []) : body (b :: r) = b :: body r := by
  unfold body
  rw [lastLead_cons h]
  split
  · rfl
  · have : 1 ≤ r.length := List.length_pos_iff.2 h
    rw [List.length_cons, show r.length + 1 - 1 = (r.length - 1) + 1 by omega, List.take_succ_cons]
theorem sm_wait (m : Int) : ∀ (n : Nat) (ys : List Int), ys.length ≤ n → sm m false ys 0 = cut (decB m (body ys)) (lastLead ys) := by
  intro n
  induction n with
  | zero =>
    intro ys h
    obtain rfl : ys = [] := List.eq_nil_of_length_eq_zero (by omega)
    simp [sm, cut, decB, rawP, decP, body, lastLead]
  | succ n ih =>
    intro ys h
    cases ys with
    | nil => simp [sm, cut, decB, rawP, decP, body, lastLead]
    | cons b r =>
      simp only [List.length_cons] at h
      rw [sm_zero]
      by_cases h1 : b < 128
      · have hl : leadB b = false := by cases hl : leadB b with | false => rfl | true => have := leadB_iff.1 hl; omega
        rw [if_pos h1, ih r (by omega), put_cut]
        cases r with
        | nil =>
          rw [show body [b] = [b] by simp [body, lastLead, hl], decB_one m b [] (fun c s e => by cases e), one_low h1, (kp_low (m := m) h1).2, (kp_low (m := m) h1).1]
          simp [cut, decB, rawP, decP, body, lastLead, hl]
        | cons c s => rw [body_cons (b := b) (r := c :: s) (by simp), lastLead_cons (b := b) (r := c :: s) (by simp), decB_one m b _ (fun c s _ => notail h1), one_low h1, (kp_low (m := m) h1).2, (kp_low (m := m) h1).1]; rfl
      · rw [if_neg h1]
        cases hl : leadB b with
        | false =>
          have hp : ∀ (q : List Int) c s, q = c :: s → pairB b c = false := fun q c s _ => by simp [pairB, hl]
          rw [if_neg (by decide)]
          cases r with
          | nil =>
            rw [show body [b] = [b] by simp [body, lastLead, hl], decB_one m b [] (hp _), (kp_one (m := m) h1).2, (kp_one (m := m) h1).1]
            by_cases hm : m = 0
            · simp [hm, stop0, cut, lastLead, hl]
            · rw [if_neg hm, ih [] (by simp), put_cut, if_neg (by simp [hm])]
              simp [cut, decB, rawP, decP, body, lastLead, hl]
          | cons c s =>
            rw [body_cons (b := b) (r := c :: s) (by simp), lastLead_cons (b := b) (r := c :: s) (by simp), decB_one m b _ (hp _), (kp_one (m := m) h1).2, (kp_one (m := m) h1).1]
            by_cases hm : m = 0
            · simp [hm, stop0, cut]
            · rw [if_neg hm, ih _ (by omega), put_cut, if_neg (by simp [hm])]
        | true =>
          rw [if_pos rfl]
          have hb := leadB_iff.1 hl
          cases r with
          | nil =>
            rw [sm_nil]
            have e : lastLead [b] = b := by simp [lastLead, hl]
            have e2 : body [b] = [] := by unfold body; rw [e, if_neg (by omega)]; rfl
            rw [e2, e]
            simp [cut, decB, rawP, decP]
          | cons c s =>
            simp only [List.length_cons] at h
            rw [sm_lead (by omega), lastLead_cons (b := b) (r := c :: s) (by simp), body_cons (b := b) (r := c :: s) (by simp)]
            cases ht : tailB c with
            | true =>
              have hp : pairB b c = true := by simp [pairB, hl, ht]
              have hcl : leadB c = false := by
                cases hc : leadB c with
                | false => rfl
                | true => have := leadB_iff.1 hc; have := tailB_iff.1 ht; omega
              rw [if_pos rfl, ih s (by omega), put_cut]
              cases s with
              | nil =>
                rw [show body [c] = [c] by simp [body, lastLead, hcl], decB_two m b c [] hp]
                simp [cut, decB, rawP, decP, body, lastLead, hcl, two, Int.mul_comm]
              | cons d s =>
                rw [body_cons (b := c) (r := d :: s) (by simp), lastLead_cons (b := c) (r := d :: s) (by simp), decB_two m b c _ hp]
                simp [two, Int.mul_comm]
            | false =>
              have hp : ∀ c' s', body (c :: s) = c' :: s' → pairB b c' = false := fun c' s' e => by
                cases s with
                | nil =>
                  unfold body at e
                  split at e
                  · injection e with e1 e2; subst e1; simp [pairB, ht]
                  · simp at e
                | cons d s => rw [body_cons (by simp)] at e; injection e with e1 e2; subst e1; simp [pairB, ht]
              rw [if_neg (by decide), decB_one m b _ hp, (kp_one (m := m) h1).2, (kp_one (m := m) h1).1]
              by_cases hm : m = 0
              · simp [hm, stop0, cut]
              · rw [if_neg hm, ih _ (by simp only [List.length_cons]; omega), put_cut, if_neg (by simp [hm])]
end Go.Proofs.YtkgjcoakeliocaaDoor
