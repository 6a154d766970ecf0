/- The law of promise 67: places cut the bytes into points. No conditions. -/
import Derived.Test.YtkgjcoakeliocaaDoorR1
import Derived.Test.YtkgjcoakeliocaaDoorR2
import Derived.Test.YtkgjcoakeliocaaDoorVB
import Derived.Test.YtkgjcoakeliocaaDoorG1
import Derived.Test.YtkgjcoakeliocaaDoorCards
import Derived.Test.YtkgjcoakeliocaaDoorTie
set_option maxRecDepth 10000
namespace Go.Proofs.YtkgjcoakeliocaaDoor
open Go.ChangeShapes Go.WideShapes Go.ChangeAt Go.RowKit
set_option linter.unusedSimpArgs false
set_option linter.unusedVariables false
namespace LawPlacesOf
theorem seqP_cut : ∀ (ys : List Int) (i : Nat), ys ≠ [] → ∃ h t, ys = h ++ t ∧ 1 ≤ h.length ∧ (rawP h).length = 1 ∧ (seqP i ys).map (·.1) = i :: (seqP (i + h.length) t).map (·.1)
  | [], _, h => absurd rfl h
  | [b], i, _ => ⟨[b], [], rfl, by simp, by simp [rawP], by simp [seqP]⟩
  | b :: c :: r, i, _ => by
    by_cases hp : pairB b c = true
    · exact ⟨[b, c], r, rfl, by simp, by simp [rawP, hp], by simp [seqP, hp]⟩
    · exact ⟨[b], c :: r, rfl, by simp, by simp [rawP], by simp [seqP, hp]⟩
theorem drop_past {h t : List Int} {a i : Nat} (hi : i + h.length ≤ a) : (h ++ t).drop (a - i) = t.drop (a - (i + h.length)) := by
  rw [List.drop_append, List.drop_eq_nil_of_le (by omega), List.nil_append]
  congr 1
  omega
theorem pl_cut : ∀ (m : Nat) (ys : List Int) (i : Nat), ys.length ≤ m → ∀ k, k < ((seqP i ys).map (·.1)).length → ∃ a z : Nat, ((seqP i ys).map (·.1))[k]? = some a ∧ i ≤ a ∧ a < z ∧ z ≤ i + ys.length ∧ ((k + 1 < ((seqP i ys).map (·.1)).length ∧ ((seqP i ys).map (·.1))[k + 1]? = some z) ∨ (¬ k + 1 < ((seqP i ys).map (·.1)).length ∧ z = i + ys.length)) ∧ (rawP ((ys.drop (a - i)).take (z - a))).length = 1
  | m, [], i, _, k, hk => by simp [seqP] at hk
  | 0, b :: r, i, h, _, _ => by simp at h
  | m + 1, b :: r, i, h, k, hk => by
    obtain ⟨hd, t, e, hl, hr, hP⟩ := seqP_cut (b :: r) i (by simp)
    rw [e] at h hP hk ⊢
    rw [hP] at hk ⊢
    rw [List.length_append] at h ⊢
    cases k with
    | zero =>
      have e1 : ((hd ++ t).drop (i - i)).take (i + hd.length - i) = hd := by rw [Nat.sub_self, List.drop_zero, show i + hd.length - i = hd.length by omega, List.take_left]
      by_cases t0 : t = []
      · subst t0
        exact ⟨i, i + hd.length, rfl, Nat.le_refl _, by omega, by simp, .inr ⟨by simp [seqP], by simp⟩, by rw [e1]; exact hr⟩
      · obtain ⟨h', t', _, _, _, hP'⟩ := seqP_cut t (i + hd.length) t0
        exact ⟨i, i + hd.length, rfl, Nat.le_refl _, by omega, by omega, .inl ⟨by rw [hP']; simp, by rw [hP']; rfl⟩, by rw [e1]; exact hr⟩
    | succ k =>
      obtain ⟨a, z, h1, h2, h3, h4, h5, h6⟩ := pl_cut m t (i + hd.length) (by omega) k (by simpa using hk)
      refine ⟨a, z, by simpa using h1, by omega, h3, by omega, ?_, ?_⟩
      · rcases h5 with ⟨h5, h7⟩ | ⟨h5, h7⟩
        · exact .inl ⟨by simp at h5 ⊢; omega, by simpa using h7⟩
        · exact .inr ⟨by simp at h5 ⊢; omega, by omega⟩
      · rw [drop_past h2]; exact h6
theorem plL_ix (xs : List Int) : plL xs = ((seqP 0 xs).map (·.1)).map (fun (i : Nat) => (i : Int)) := by simp [plL]
theorem pl_parts {xs : List Int} (h : bytesB xs = true) {k : Nat} (hk : k < (plL xs).length) : ∃ a z : Nat, (plL xs)[k]? = some (a : Int) ∧ a < z ∧ z ≤ xs.length ∧ ((k + 1 < (plL xs).length ∧ (plL xs)[k + 1]? = some (z : Int)) ∨ (¬ k + 1 < (plL xs).length ∧ z = xs.length)) ∧ cpOut ((xs.drop a).take (z - a)) = 1 := by
  rw [plL_ix, List.length_map] at hk
  obtain ⟨a, z, h1, _, h3, h4, h5, h6⟩ := pl_cut xs.length xs 0 (Nat.le_refl _) k hk
  have e0 : (plL xs)[k]? = some (a : Int) := by rw [plL_ix, List.getElem?_map, h1]; rfl
  have e1 : (plL xs).length = ((seqP 0 xs).map (·.1)).length := by rw [plL_ix, List.length_map]
  have e2 : ∀ z : Nat, ((seqP 0 xs).map (·.1))[k + 1]? = some z → (plL xs)[k + 1]? = some (z : Int) := fun z hz => by rw [plL_ix, List.getElem?_map, hz]; rfl
  rw [e1]
  refine ⟨a, z, e0, h3, by omega, ?_, ?_⟩
  · rcases h5 with ⟨h5, h7⟩ | ⟨h5, h7⟩
    · exact .inl ⟨h5, e2 z h7⟩
    · exact .inr ⟨h5, by omega⟩
  · have hb := bytesB_take (bytesB_drop h a) (z - a)
    rw [Nat.sub_zero] at h6
    unfold cpOut
    rw [if_pos hb, cp_len, h6]
    rfl
theorem pl_first {xs : List Int} (hk : 0 < (plL xs).length) : (plL xs)[0]? = some 0 := by
  cases xs with
  | nil => simp [plL, seqP] at hk
  | cons b r =>
    obtain ⟨hd, t, e, hl, hr, hP⟩ := seqP_cut (b :: r) 0 (by simp)
    rw [plL_ix, hP]
    rfl
theorem pl_up {xs : List Int} (h : bytesB xs = true) : ∀ j x y, (plL xs)[j]? = some x → (plL xs)[j + 1]? = some y → x < y := by
  intro j x y hx hy
  have h1 := (List.getElem?_eq_some_iff.1 hx).1
  have h2 := (List.getElem?_eq_some_iff.1 hy).1
  obtain ⟨a, z, e1, e2, _, e4, _⟩ := pl_parts h h1
  rcases e4 with ⟨_, e5⟩ | ⟨e5, _⟩
  · rw [e1] at hx
    rw [e5] at hy
    injection hx with hx
    injection hy with hy
    omega
  · exact absurd h2 e5
set_option maxHeartbeats 2000000 in
theorem ascends_same {A : Option Addr} {n c : Nat} {xs : List Int} {w : World} {L B : Nat} (h : Ints w L B A n xs) (hs : ∀ j x y, xs[j]? = some x → xs[j + 1]? = some y → x < y) :
    Calls Tryd.prog 41 #[.slice A n c] w (BoolB true w) := by
  have HL := Lib.hid h.len
  have hm := h.max
  have HS := Lib.hid hs
  clear hs
  go_enter Tryd.func41, Tryd.ntmps41
  go_wp2
  go_loopw [3] (fun i wr => ∃ k q : Nat, q = k + 1 ∧ k ≤ n ∧ i = .int .i64 q ∧ ∃ m, wr = w.drewN m) (fun i _ => n + 1 - (intOf i).toNat)
  case atStart => exact ⟨0, 1, rfl, Nat.zero_le _, rfl, 0, rfl⟩
  case round =>
    obtain ⟨k, q, hq, hk, rfl, m, rfl⟩ := hrel
    by_cases hlt : q < n
    · obtain ⟨b, o, x, rfl, _, hc, hx⟩ := h.at_ (k := k) (by omega)
      obtain ⟨b2, o2, y, e1, _, hc2, hy⟩ := h.at_ hlt
      injection e1 with e1
      injection e1 with e1 e2 _
      subst e1 e2
      have hxy := HS.out k x y hx.out (by rw [← hq]; exact hy.out)
      have hi0 : (0 : Int) ≤ (q : Int) := by omega
      have hi1 : (q : Int) < (n : Int) := by omega
      have hj0 : (0 : Int) ≤ (k : Int) := by omega
      have hj1 : (k : Int) < (n : Int) := by omega
      have hw : IntKind.i64.wrap ((q : Int) - 1) = (k : Int) := by rw [IntWalk.i64_in _ (by omega)]; omega
      have hle : ¬ y ≤ x := by omega
      have hq2 : q ≤ k + 1 := by omega
      have hq3 : k + 1 ≤ q := by omega
      clear hxy hq
      go_wp2
      go_quiet (fail)
      go_wp2
      go_roundw
      case rel => exact ⟨k + 1, q + 1, by omega, by omega, by go_num, _, rfl⟩
      case measure => simp [intOf]; omega
    · go_wp2
      go_ret
      exact ⟨rfl, below_drewN (Below.refl _ _) m⟩
set_option maxHeartbeats 8000000 in
theorem walk (A : Option Addr) (n c : Nat) (w : World) (h : BytesIn w w.heap.size A n) (hnc : n ≤ c) (hm : n ≤ 9223372036854775807) (HT : Tab w) :
    Calls Tryd.prog 12 #[.slice A n c] w (BoolB true w) := by
  have HBY := Lib.hid h
  clear h
  have EB := Lib.hid (Below.refl w.heap.size w)
  have tl := HT.lt
  have TB : Hid (Box w 0 tabL) := HT
  clear HT
  by_cases hbig : (1048576 : Int) < (n : Int)
  · go_enter Tryd.func12, Tryd.ntmps12
    go_wp2
    go_ret
    exact ⟨rfl, Below.refl _ _⟩
  go_enter Tryd.func12, Tryd.ntmps12
  go_wp2_with fail
  refine (DrawPlacesOf_any HBY.out (by omega) hnc).mono ?_
  rintro e w1 ⟨Ad, nd, cd, Dd, rfl, hcd, hnd, hb, hl⟩
  (try simp only [World.size_alloc, World.size_setCell, World.size_drew] at hb)
  have HB := Lib.hid hb
  clear hb
  have s1 := HB.out.size
  (try simp only [World.size_alloc, World.size_setCell, World.size_drew] at s1)
  replace TB := Lib.hid (TB.out.below HB.out (by omega))
  replace EB := Lib.hid (below_step HB.out EB.out (by omega))
  clear HB
  have d1 := Lib.hid hl
  clear hl HBY
  cases hv : bytesB Dd
  · have HNO : Hid (plOut Dd = []) := by show _ = _; simp [plOut, hv]
    go_wp2_with fail
    refine (to_listN (PlacesOf_any d1.out (by omega) hcd TB.out) HNO.out).mono ?_
    rintro e w2 ⟨Ao, no, co, rfl, hco, hb, hl⟩
    (try simp only [World.size_alloc, World.size_setCell, World.size_drew] at hb)
    have HB := Lib.hid hb
    clear hb
    have s2 := HB.out.size
    (try simp only [World.size_alloc, World.size_setCell, World.size_drew] at s2)
    replace TB := Lib.hid (TB.out.below HB.out (by omega))
    replace d1 := Lib.hid (d1.out.below HB.out (by omega))
    replace EB := Lib.hid (below_step HB.out EB.out (by omega))
    clear HB
    have o1 := Lib.hid hl
    clear hl
    go_wp2_with fail
    refine (to_listN (SPlacesOf_any d1.out (by omega)) HNO.out).mono ?_
    rintro e w3 ⟨As, ns, cs, rfl, hcs, hb, hl⟩
    (try simp only [World.size_alloc, World.size_setCell, World.size_drew] at hb)
    have HB := Lib.hid hb
    clear hb
    have s3 := HB.out.size
    (try simp only [World.size_alloc, World.size_setCell, World.size_drew] at s3)
    replace TB := Lib.hid (TB.out.below HB.out (by omega))
    replace d1 := Lib.hid (d1.out.below HB.out (by omega))
    replace o1 := Lib.hid (o1.out.below HB.out (by omega))
    replace EB := Lib.hid (below_step HB.out EB.out (by omega))
    clear HB
    have s1 := Lib.hid hl
    clear hl
    go_wp2_with fail
    refine (equalInts_same o1.out s1.out rfl).mono ?_
    rintro e w4 ⟨rfl, hb⟩
    (try simp only [World.size_alloc, World.size_setCell, World.size_drew] at hb)
    have HB := Lib.hid hb
    clear hb
    have s4 := HB.out.size
    (try simp only [World.size_alloc, World.size_setCell, World.size_drew] at s4)
    replace TB := Lib.hid (TB.out.below HB.out (by omega))
    replace d1 := Lib.hid (d1.out.below HB.out (by omega))
    replace o1 := Lib.hid (o1.out.below HB.out (by omega))
    replace s1 := Lib.hid (s1.out.below HB.out (by omega))
    replace EB := Lib.hid (below_step HB.out EB.out (by omega))
    clear HB
    have hno : no = 0 := o1.out.len
    subst hno
    go_wp2_with fail
    refine (to_listN (SPlacesOf_any d1.out (by omega)) HNO.out).mono ?_
    rintro e w5 ⟨At, nt, ct, rfl, hct, hb, hl⟩
    (try simp only [World.size_alloc, World.size_setCell, World.size_drew] at hb)
    have HB := Lib.hid hb
    clear hb
    have s5 := HB.out.size
    (try simp only [World.size_alloc, World.size_setCell, World.size_drew] at s5)
    replace TB := Lib.hid (TB.out.below HB.out (by omega))
    replace d1 := Lib.hid (d1.out.below HB.out (by omega))
    replace o1 := Lib.hid (o1.out.below HB.out (by omega))
    replace s1 := Lib.hid (s1.out.below HB.out (by omega))
    replace EB := Lib.hid (below_step HB.out EB.out (by omega))
    clear HB
    have t1 := Lib.hid hl
    clear hl
    go_wp2_with fail
    refine (equalInts_same o1.out t1.out rfl).mono ?_
    rintro e w6 ⟨rfl, hb⟩
    (try simp only [World.size_alloc, World.size_setCell, World.size_drew] at hb)
    have HB := Lib.hid hb
    clear hb
    have s6 := HB.out.size
    (try simp only [World.size_alloc, World.size_setCell, World.size_drew] at s6)
    replace TB := Lib.hid (TB.out.below HB.out (by omega))
    replace d1 := Lib.hid (d1.out.below HB.out (by omega))
    replace o1 := Lib.hid (o1.out.below HB.out (by omega))
    replace s1 := Lib.hid (s1.out.below HB.out (by omega))
    replace t1 := Lib.hid (t1.out.below HB.out (by omega))
    replace EB := Lib.hid (below_step HB.out EB.out (by omega))
    clear HB
    go_wp2
    go_ret
    exact ⟨rfl, EB.out⟩
  · have HPL : Hid (plOut Dd = plL Dd) := by show _ = _; simp [plOut, hv]
    go_wp2_with fail
    refine (to_listN (PlacesOf_any d1.out (by omega) hcd TB.out) HPL.out).mono ?_
    rintro e w2 ⟨Ao, no, co, rfl, hco, hb, hl⟩
    (try simp only [World.size_alloc, World.size_setCell, World.size_drew] at hb)
    have HB := Lib.hid hb
    clear hb
    have s2 := HB.out.size
    (try simp only [World.size_alloc, World.size_setCell, World.size_drew] at s2)
    replace TB := Lib.hid (TB.out.below HB.out (by omega))
    replace d1 := Lib.hid (d1.out.below HB.out (by omega))
    replace EB := Lib.hid (below_step HB.out EB.out (by omega))
    clear HB
    have o1 := Lib.hid hl
    clear hl
    go_wp2_with fail
    refine (to_listN (SPlacesOf_any d1.out (by omega)) HPL.out).mono ?_
    rintro e w3 ⟨As, ns, cs, rfl, hcs, hb, hl⟩
    (try simp only [World.size_alloc, World.size_setCell, World.size_drew] at hb)
    have HB := Lib.hid hb
    clear hb
    have s3 := HB.out.size
    (try simp only [World.size_alloc, World.size_setCell, World.size_drew] at s3)
    replace TB := Lib.hid (TB.out.below HB.out (by omega))
    replace d1 := Lib.hid (d1.out.below HB.out (by omega))
    replace o1 := Lib.hid (o1.out.below HB.out (by omega))
    replace EB := Lib.hid (below_step HB.out EB.out (by omega))
    clear HB
    have s1 := Lib.hid hl
    clear hl
    go_wp2_with fail
    refine (equalInts_same o1.out s1.out rfl).mono ?_
    rintro e w4 ⟨rfl, hb⟩
    (try simp only [World.size_alloc, World.size_setCell, World.size_drew] at hb)
    have HB := Lib.hid hb
    clear hb
    have s4 := HB.out.size
    (try simp only [World.size_alloc, World.size_setCell, World.size_drew] at s4)
    replace TB := Lib.hid (TB.out.below HB.out (by omega))
    replace d1 := Lib.hid (d1.out.below HB.out (by omega))
    replace o1 := Lib.hid (o1.out.below HB.out (by omega))
    replace s1 := Lib.hid (s1.out.below HB.out (by omega))
    replace EB := Lib.hid (below_step HB.out EB.out (by omega))
    clear HB
    by_cases h0 : no = 0
    · subst h0
      go_wp2_with fail
      refine (to_listN (SPlacesOf_any d1.out (by omega)) HPL.out).mono ?_
      rintro e w5 ⟨At, nt, ct, rfl, hct, hb, hl⟩
      (try simp only [World.size_alloc, World.size_setCell, World.size_drew] at hb)
      have HB := Lib.hid hb
      clear hb
      have s5 := HB.out.size
      (try simp only [World.size_alloc, World.size_setCell, World.size_drew] at s5)
      replace TB := Lib.hid (TB.out.below HB.out (by omega))
      replace d1 := Lib.hid (d1.out.below HB.out (by omega))
      replace o1 := Lib.hid (o1.out.below HB.out (by omega))
      replace s1 := Lib.hid (s1.out.below HB.out (by omega))
      replace EB := Lib.hid (below_step HB.out EB.out (by omega))
      clear HB
      have t1 := Lib.hid hl
      clear hl
      go_wp2_with fail
      refine (equalInts_same o1.out t1.out rfl).mono ?_
      rintro e w6 ⟨rfl, hb⟩
      (try simp only [World.size_alloc, World.size_setCell, World.size_drew] at hb)
      have HB := Lib.hid hb
      clear hb
      have s6 := HB.out.size
      (try simp only [World.size_alloc, World.size_setCell, World.size_drew] at s6)
      replace TB := Lib.hid (TB.out.below HB.out (by omega))
      replace d1 := Lib.hid (d1.out.below HB.out (by omega))
      replace o1 := Lib.hid (o1.out.below HB.out (by omega))
      replace s1 := Lib.hid (s1.out.below HB.out (by omega))
      replace t1 := Lib.hid (t1.out.below HB.out (by omega))
      replace EB := Lib.hid (below_step HB.out EB.out (by omega))
      clear HB
      go_wp2
      go_ret
      exact ⟨rfl, EB.out⟩
    · have hz : ((no : Int) == 0) = false := by simp; omega
      have HPT : Hid (∀ k, k < no → ∃ a z : Nat, (plL Dd)[k]? = some (a : Int) ∧ a < z ∧ z ≤ nd ∧ ((k + 1 < no ∧ (plL Dd)[k + 1]? = some (z : Int)) ∨ (¬ k + 1 < no ∧ z = nd)) ∧ cpOut ((Dd.drop a).take (z - a)) = 1) := fun k hk => by rw [o1.out.len, d1.out.len] at *; exact pl_parts hv hk
      have HUP : Hid (∀ j x y, (plL Dd)[j]? = some x → (plL Dd)[j + 1]? = some y → x < y) := pl_up hv
      have HFI : Hid ((plL Dd)[0]? = some 0) := pl_first (by have := o1.out.len; omega)
      go_wp2_with fail
      have hmo := o1.out.max
      go_loopw [5] (fun i wr => ∃ k : Nat, k ≤ no ∧ i = .int .i64 k ∧ Hid (Below w4.heap.size w4 wr)) (fun i _ => no - (intOf i).toNat)
      case atStart => exact ⟨0, Nat.zero_le _, rfl, Below.refl _ _⟩
      case round =>
        obtain ⟨k, hk, rfl, HBR⟩ := hrel
        have sr := HBR.out.size
        replace TB := Lib.hid (TB.out.below HBR.out (by omega))
        replace d1 := Lib.hid (d1.out.below HBR.out (by omega))
        replace o1 := Lib.hid (o1.out.below HBR.out (by omega))
        replace s1 := Lib.hid (s1.out.below HBR.out (by omega))
        by_cases hlt : k < no
        · obtain ⟨a, z, g1, g2, g3, g4, g5⟩ := HPT.out k hlt
          obtain ⟨b, o, rfl, _, hbl, hcc⟩ := o1.out.2.2.2 (by omega)
          have hc := (hcc k _ g1).1
          have C1 := Lib.hid g5
          have haz : (a : Int) ≤ (z : Int) := by omega
          have hzc : (z : Int) ≤ (cd : Int) := by omega
          have ha0 : (0 : Int) ≤ (a : Int) := by omega
          have hca : ¬ cd = a := by omega
          clear g1 g5
          rcases g4 with ⟨hq, hx2⟩ | ⟨hq, rfl⟩
          · have hc2 := (hcc (k + 1) _ hx2).1
            have hq2 : (k : Int) + 1 < (no : Int) := by omega
            clear hx2 hcc
            go_wp2_with fail
            refine (to_intN (CountPoints_any ((d1.out.drop (a := a) (by omega)).take (m := z - a) (by omega)) (by omega) (by omega) TB.out) C1.out).mono ?_
            rintro e wa ⟨rfl, hb⟩
            have Ewa : Hid (Below w4.heap.size w4 wa) := below_step hb HBR.out (by omega)
            clear hb
            go_wp2
            go_roundw
            case rel => exact ⟨k + 1, by omega, by go_num, Ewa⟩
            case measure => simp [intOf]; omega
          · have hq2 : ¬ (k : Int) + 1 < (no : Int) := by omega
            clear hcc
            go_wp2_with fail
            refine (to_intN (CountPoints_any ((d1.out.drop (a := a) (by omega)).take (m := z - a) (by omega)) (by omega) (by omega) TB.out) C1.out).mono ?_
            rintro e wa ⟨rfl, hb⟩
            have Ewa : Hid (Below w4.heap.size w4 wa) := below_step hb HBR.out (by omega)
            clear hb
            go_wp2
            go_roundw
            case rel => exact ⟨k + 1, by omega, by go_num, Ewa⟩
            case measure => simp [intOf]; omega
        · obtain ⟨b, o, rfl, _, hbl, hcc⟩ := o1.out.2.2.2 (by omega)
          have hc : wr.cell? ⟨b, o, none⟩ = some (.int .i64 0) := by simpa using (hcc 0 _ HFI.out).1
          have hn0 : (0 : Int) < (no : Int) := by omega
          clear hcc
          go_wp2_with fail
          refine (ascends_same o1.out HUP.out).mono ?_
          rintro e wa ⟨rfl, hb⟩
          have Ewa : Hid (Below w4.heap.size w4 wa) := below_step hb HBR.out (by omega)
          clear hb
          go_wp2
          go_ret
          exact ⟨rfl, below_step Ewa.out EB.out (by omega)⟩
theorem contract (H : Type) (enc : TypeId × Value → H) (W : World) (base : Nat) (args : Array Value) (ds gs : List (DataW H)) (before : List MemPlace)
    (hval : ∀ (j : Nat) t v, Tryd.f12.params[j]? = some t → args[j]? = some v → Value.okWide Tryd.prog W .any base t v)
    (hW : DataW.Whole enc Tryd.prog Tryd.f12.params.toList Rows.fnPlacesOfSpec.vars false W args.toList ds gs before) (hL : laidMetH Tryd.prog laidT W) :
    Calls Tryd.prog 12 args W fun e W' => ∃ v, e = .returned v ∧ Rows.fnPlacesOfSpec.post enc Tryd.prog Tryd.f12 false true false false W args v W' := by
  have hW' := hW
  have hlt : ∀ p ∈ before, p.block < W.heap.size := fun p hp => hW.lt p hp
  obtain ⟨p, q, hA0, hV0, rfl, hfz, hnd⟩ := hW
  have hA : DataW.TrodAll enc Tryd.prog W 0 (fun _ => true) true Tryd.f12.params.toList args.toList ds p := hA0
  have hV : DataW.TrodVars enc Tryd.prog W (fun _ => true) ["loop.example/streamlayers/impl.borders"] gs q := hV0
  rw [Tryd.params12] at hA hval
  obtain ⟨v0, vs0, d0, ds0, p0, q0, hargs, rfl, rfl, h0, r0⟩ := trodAll_cons hA
  obtain ⟨rfl, rfl, rfl⟩ := trodAll_nil r0
  obtain rfl : args = #[v0] := by cases args; simp_all
  obtain ⟨hv, hT⟩ := tab_gives hL
  have lt := hT.lt
  have vr : ∀ {X : World}, Below W.heap.size W X → ∀ sp : Nat → Bool, DataW.TrodVars enc Tryd.prog X sp ["loop.example/streamlayers/impl.borders"] [tabD] (MemPlace.row ⟨0, 0, none⟩ 10) := fun hb sp => tab_read enc (var?_below hb (by kernel_rfl) lt hv) sp
  obtain ⟨rfl, rfl⟩ := hV.unique (vr (Below.refl _ _) _)
  obtain ⟨A, n, c, rfl, hnc, hby, hmx⟩ := arg_bytes (hval 0 _ v0 rfl rfl) h0 (fun p hp => hlt p (by simp [hp]))
  refine (walk A n c W hby hnc hmx hT).mono fun e W' hh => ?_
  obtain ⟨rfl, hb⟩ := hh
  exact ⟨_, rfl, law_postT laidOut (tys_of (by rw [Tryd.params12]; kernel_rfl)) hW' (fun sp => vr hb sp) rfl rfl Tryd.underlying4 hb⟩

set_option maxRecDepth 100000 in
theorem lifted (os : Os) (started : os.Started) (H : Type) (enc : TypeId × Value → H) :
    ReturnsInHanded {} Tryd.checked os 12 .any (fun w args => (Rows.fnPlacesOfSpec.pre enc Tryd.prog Tryd.f12 [] false w args ∧ laidMetH Tryd.prog laidT w) ∧ sizedMet enc Tryd.prog Tryd.f12 (OpenSpec.ofChange Rows.fnPlacesOfSpec) false w args) (Rows.fnPlacesOfSpec.post enc Tryd.prog Tryd.f12 false true false false) := by
  refine returnsInHanded_of_change_and (C := Tryd.checked) (X := fun w _ => laidMetH Tryd.prog laidT w) (fun _ _ _ hh h => h.of_heap hh) own started (by kernel_rfl) Tryd.func12
    (ChangeSpec.witness_shaped (enc := enc) (C := Tryd.checked) (os := os) (X := fun w _ => laidMetH Tryd.prog laidT w) false (World.doorLaid Tryd.prog 19 os) #[.slice none 0 0] 8 rfl (World.shaped_of_RefB (by kernel_rfl) (by kernel_rfl)) (by kernel_rfl) (by kernel_rfl) (by kernel_rfl) (door_metT os _)) ?_
  intro W base args ds gs before hval hW _ _ hL _
  exact contract H enc W base args ds gs before hval hW hL

theorem row : Rows.FnPlacesOfSaid :=
  OpenClaim.holds_of_wide 12 Tryd.f12 rfl rfl rfl rfl rfl rfl rfl ⟨rfl, rfl, rfl, rfl, rfl⟩ rfl rfl rfl rfl rfl (by kernel_rfl) Tryd.func12 (by kernel_rfl)
    (of_decide_eq_true (by kernel_rfl)) (by unfold Func.isWrapper; first | (rw [if_pos (by decide +kernel)]; kernel_rfl) | (rw [if_neg (by decide +kernel)]; exact ⟨rfl, rfl⟩))
    (fun os started H enc _ => lifted os started H enc)

theorem holds : Rows.FnPlacesOfCardSaid :=
  Claim7.holds_tied_plain_at .later [] [.data] true _ false
    row (fun _ h => by cases h) (by kernel_rfl) (fun _ h => by cases h) fnPlacesOf_row_tie rfl ⟨rfl, rfl⟩ (by kernel_rfl) rfl
    (fun f fn hf hfn => by
      obtain rfl : f = 12 := Option.some.inj ((show Tryd.prog.funcNamed "loop.example/streamlayers/laws.FnPlacesOf" = some 12 by kernel_rfl).symm.trans hf) |>.symm
      obtain rfl : fn = Tryd.f12 := (Option.some.inj (Tryd.func12.symm.trans hfn)).symm
      exact ⟨by kernel_rfl, fun j t ht => by
        have hm : t ∈ Tryd.f12.params.toList := Array.mem_toList_iff.2 (Array.mem_of_getElem? ht)
        have hall : (Tryd.f12.params.toList.all fun t => !(Tryd.prog.wantsStandIn t)) = true := by kernel_rfl
        have h9 := List.all_eq_true.1 hall t hm
        show Tryd.prog.wantsStandIn t = false
        simpa using h9⟩)
    (by kernel_rfl)
end LawPlacesOf
end Go.Proofs.YtkgjcoakeliocaaDoor
