/- A reader at work: full, rest and until, loops over some. -/
import Derived.Test.YtmjmplfhedknhaaC2h
import Derived.Test.YtmjmplfhedknhaaApp2
import Derived.IntWalk
namespace Go.Proofs.Ytmjmplfhedknhaa
open Go.ChangeShapes Go.WideShapes Go.ChangeAt Go.RowKit
set_option linter.unusedSimpArgs false
set_option linter.unusedVariables false
set_option maxRecDepth 10000

/-- What reading on leaves: the place, the calls, what is read ahead, the bytes, and how it ended. -/
structure Rs where
  p : Int
  a : Nat
  r : List Int
  out : List Int
  st : Int
/-- Reading on until there are N bytes. -/
def fullGo (D S : List Int) (z : Int) (N : Nat) : Nat → Int → Nat → List Int → List Int → Rs
  | 0, p, a, R, out => ⟨p, a, R, out, 0⟩
  | f + 1, p, a, R, out => if N ≤ out.length then ⟨p, a, R, out, 0⟩ else
      if flS D S p a R = 0 then fullGo D S z N f (flP D S z p a R) (flA a R) ((flR D S z p a R).drop (min (N - out.length) (flR D S z p a R).length)) (out ++ (flR D S z p a R).take (min (N - out.length) (flR D S z p a R).length))
      else ⟨flP D S z p a R, flA a R, flR D S z p a R, out, flS D S p a R⟩

/-- A reader at work, and a list in new memory apart from it. -/
def WorkPost (lo b : Nat) (A : Option Addr) (n c : Nat) (A' : Option Addr) (n' c' : Nat) (D S : List Int) (z : Int) (o : Rs) (w : World) (e : Ending) (w' : World) : Prop :=
  ∃ A1 n1 c1 A5 n5 c5 M' C', e = .returned (.tuple #[.slice A1 n1 c1, .int .i64 o.st]) ∧ n1 ≤ c1 ∧ Turn w.heap.size b w w' ∧ LookAt lo b A n c A' n' c' D S z o.p o.a A5 n5 c5 M' C' o.r w' ∧ Ints w' w.heap.size w'.heap.size A1 n1 o.out ∧ Apart A1 n1 A5 n5

set_option maxHeartbeats 2000000 in
theorem full_any {lo b n c n' c' a n2 c2 M C N : Nat} {A A' A2 : Option Addr} {D S R : List Int} {z p : Int} {w : World} (h : LookAt lo b A n c A' n' c' D S z p a A2 n2 c2 M C R w) (hv : validD D p S (a : Int) = true) (ha : a ≤ 900) (hz : 1 ≤ z) (hz' : z ≤ 60) (hK : R.length + (D.length - p.toNat) ≤ 60) (hN : N ≤ 60) :
    Calls Try.prog 51 #[.pointer (some ⟨b, 0, none⟩), .int .i64 (N : Int)] w (WorkPost lo b A n c A' n' c' D S z (fullGo D S z N 62 p a R []) w) := by
  obtain ⟨T, hT⟩ : ∃ T, fullGo D S z N 62 p a R [] = T := ⟨_, rfl⟩
  rw [hT]
  have HT := Lib.hid hT
  have HL := Lib.hid h
  have HV := Lib.hid hv
  have hbw := h.1.lt
  clear hT h hv
  go_enter Try.func51, Try.ntmps51
  go_wp2
  go_loopw [6] (fun o wr => ∃ (j m co : Nat) (Ao : Option Addr) (out : List Int) (p' : Int) (a' : Nat) (R' : List Int) (A5 : Option Addr) (n5 c5 M' C' : Nat), o = .slice Ao m co ∧ j ≤ m ∧ m ≤ N ∧ a' ≤ a + m ∧ Hid (OwnI wr w.heap.size (.slice Ao m co) m out) ∧ Hid (∀ x ∈ out, okInt x) ∧ Hid (Clear (.slice Ao m co) M' C') ∧ Hid (Turn w.heap.size b w wr) ∧ Hid (LookAt lo b A n c A' n' c' D S z p' a' A5 n5 c5 M' C' R' wr) ∧ Hid (validD D p' S (a' : Int) = true) ∧ R'.length + (D.length - p'.toNat) ≤ 60 ∧ Hid (fullGo D S z N (62 - j) p' a' R' out = T)) (fun o _ => N - lenV o)
  case atStart => exact ⟨0, 0, 0, none, [], p, a, R, A2, n2, c2, M, C, rfl, by omega, by omega, by omega, OwnI.nil_ _ _, fun x hx => (by cases hx), Clear.nil _ _, Turn.refl _ _ _, HL, HV, hK, HT⟩
  case round =>
    obtain ⟨j, m, co, Ao, out, p', a', R', A5, n5, c5, M', C', rfl, hj, hm, ha', ho, hok, hcl, ht, hl, hv, hk, hg⟩ := hrel
    have hml : m = out.length := ho.out.len
    have hsz := ht.out.size
    by_cases hlt : m < N
    · have hlti : (m : Int) < (N : Int) := by omega
      obtain ⟨k, hkN⟩ : ∃ k : Nat, k = N - m := ⟨_, rfl⟩
      have hw : IntKind.i64.wrap ((N : Int) - (m : Int)) = (k : Int) := by rw [IntWalk.i64_in _ (by omega)]; omega
      obtain ⟨hv1, hk1, hpos, ha1⟩ := fl_step (R := R') hv.out (by omega) hz
      have hrec := hg.out
      rw [show 62 - j = (62 - (j + 1)) + 1 from by omega, fullGo, if_neg (by omega)] at hrec
      have HREC := Lib.hid hrec
      have HV1 := Lib.hid hv1
      have HKN := Lib.hid hkN
      have HML := Lib.hid hml
      clear hrec hg hv1
      by_cases hst : flS D S p' a' R' = 0
      · have hcall := fun k0 => some_ok (k := k) hl.out hv.out (by omega) hz hz' k0 hst
        have HC := Lib.hid hcall
        have HST := Lib.hid hst
        have HP := Lib.hid hpos
        clear hcall hst hpos hkN hml
        go_wp2_with fail
        refine (HC.out (by have := HKN.out; omega)).mono ?_
        rintro e w1 ⟨A1, mm, A6, n6, c6, M6, C6, rfl, hmm, ht1, hl1, hi1, _, _, hor⟩
        have hs1 := ht1.size
        have HL1 := Lib.hid hl1
        have HI1 := Lib.hid hi1
        have HO1 := Lib.hid (ho.out.turn ht1 (Nat.le_refl _) hbw)
        have HT1 := Lib.hid (ht.out.trans (ht1.mono hsz))
        have HC1 : Hid (Clear (.slice Ao m co) M6 C6) := by
          show Clear _ _ _
          rcases hor with ⟨rfl, rfl⟩ | h
          · exact hcl.out
          · exact ho.out.clear h
        have HMM := Lib.hid hmm
        have hm60 : mm ≤ N - m := by have := HKN.out; omega
        clear hl1 hi1 ht1 hor ho hl ht hcl hmm
        go_wp2_with (at_builtin; refine wpList_append_at rfl _ _ rfl w.heap.size (.slice Ao m co) m _ rfl HO1.out _ mm mm _ rfl HI1.out (by omega) (by omega) ?_)
        intro v' w2 hown hgr hob
        have hok2 : ∀ x ∈ out ++ List.take mm (flR D S z p' a' R'), okInt x := by
          intro x hx
          rcases List.mem_append.1 hx with h | h
          · exact hok.out x h
          · exact HI1.out.ok x h
        obtain ⟨A3, c3, rfl, _, _⟩ := hown.ints hok2
        have HO2 := Lib.hid hown
        have HK2 := Lib.hid hok2
        have HB2 := below_grown HO1.out hgr (by omega)
        have HT2 := Lib.hid (HT1.out.step HB2 (Nat.le_refl _))
        have HL2 := Lib.hid (HL1.out.grown hgr (fun k hk => ⟨HC1.out k hk, by have := (HO1.out.lt k hk).1; omega⟩))
        have HC2 := Lib.hid (HC1.out.later HL1.out.2.2.2.1.2.2 hob)
        have hR : Hid (fullGo D S z N (62 - (j + 1)) (flP D S z p' a' R') (flA a' R') (List.drop mm (flR D S z p' a' R')) (out ++ List.take mm (flR D S z p' a' R')) = T) := by
          show _ = T
          have h1 := HREC.out
          rw [if_pos HST.out, ← HML.out, ← HKN.out, ← HMM.out] at h1
          exact h1
        have hpm : 1 ≤ mm := by have := HP.out HST.out; have := HMM.out; have := HKN.out; omega
        have hdl : (List.drop mm (flR D S z p' a' R')).length ≤ (flR D S z p' a' R').length := by rw [List.length_drop]; omega
        clear hown hok2 hgr hob HB2 HREC HC
        go_wp2
        go_roundw
        case rel => exact ⟨j + 1, m + mm, c3, A3, _, _, _, _, A6, n6, c6, M6, C6, rfl, by omega, by omega, by omega, HO2, HK2, HC2, HT2, HL2, HV1, by omega, hR⟩
        case measure => simp [lenV]; omega
      · have hcall := some_no (k := k) hl.out hv.out (by omega) hz hz' hst
        have hne : (flS D S p' a' R' != 0) = true := by simpa using hst
        have HTT : Hid (T = ⟨flP D S z p' a' R', flA a' R', flR D S z p' a' R', out, flS D S p' a' R'⟩) := by
          show T = _
          have h1 := HREC.out
          rw [if_neg hst] at h1
          exact h1.symm
        have HC := Lib.hid hcall
        clear hcall hst hpos hkN hml HREC
        obtain ⟨st, hs⟩ : ∃ st, flS D S p' a' R' = st := ⟨_, rfl⟩
        rw [hs] at hne HTT HC
        clear hs
        go_wp2_with fail
        refine HC.out.mono ?_
        rintro e w1 ⟨A6, n6, c6, M6, C6, rfl, ht1, hl1, hor⟩
        have hs1 := ht1.size
        have HL1 := Lib.hid hl1
        have HO1 := Lib.hid (ho.out.turn ht1 (Nat.le_refl _) hbw)
        have HT1 := Lib.hid (ht.out.trans (ht1.mono hsz))
        have HC1 : Hid (Clear (.slice Ao m co) M6 C6) := ho.out.clear hor
        clear hl1 ht1 hor ho hl ht hcl
        go_wp2
        go_ret2
        rw [HTT.out]
        obtain ⟨A3, c3, e3, hc3, hi3⟩ := HO1.out.ints hok.out
        injection e3 with e1 _ e2
        subst e1; subst e2
        exact ⟨Ao, m, co, A6, n6, c6, M6, C6, rfl, hc3, HT1.out, HL1.out, hi3, HO1.out.apart HC1.out HL1.out.2.1.2.2⟩
    · have hlti : ¬ (m : Int) < (N : Int) := by omega
      have HTT : Hid (T = ⟨p', a', R', out, 0⟩) := by
        show T = _
        have h1 := hg.out
        rw [show 62 - j = (62 - (j + 1)) + 1 from by omega, fullGo, if_pos (by omega)] at h1
        exact h1.symm
      clear hg hml
      go_wp2
      go_ret2
      rw [HTT.out]
      obtain ⟨A3, c3, e3, hc3, hi3⟩ := ho.out.ints hok.out
      injection e3 with e1 _ e2
      subst e1; subst e2
      exact ⟨Ao, m, co, A5, n5, c5, M', C', rfl, hc3, ht.out, hl.out, hi3, ho.out.apart hcl.out hl.out.2.1.2.2⟩

set_option maxHeartbeats 2000000 in
theorem rest_any {lo b n c n' c' a n2 c2 M C : Nat} {A A' A2 : Option Addr} {D S R : List Int} {z p : Int} {w : World} (h : LookAt lo b A n c A' n' c' D S z p a A2 n2 c2 M C R w) (hv : validD D p S (a : Int) = true) (ha : a ≤ 900) (hz : 1 ≤ z) (hz' : z ≤ 60) (hK : R.length + (D.length - p.toNat) ≤ 60) :
    Calls Try.prog 66 #[.pointer (some ⟨b, 0, none⟩)] w (WorkPost lo b A n c A' n' c' D S z (fullGo D S z 61 62 p a R []) w) := by
  obtain ⟨T, hT⟩ : ∃ T, fullGo D S z 61 62 p a R [] = T := ⟨_, rfl⟩
  rw [hT]
  have HT := Lib.hid hT
  have HL := Lib.hid h
  have HV := Lib.hid hv
  have hbw := h.1.lt
  clear hT h hv
  go_enter Try.func66, Try.ntmps66
  go_wp2
  go_loopw [4] (fun o wr => ∃ (j m co : Nat) (Ao : Option Addr) (out : List Int) (p' : Int) (a' : Nat) (R' : List Int) (A5 : Option Addr) (n5 c5 M' C' : Nat), o = .slice Ao m co ∧ j ≤ m ∧ m ≤ 60 ∧ a' ≤ a + m ∧ Hid (OwnI wr w.heap.size (.slice Ao m co) m out) ∧ Hid (∀ x ∈ out, okInt x) ∧ Hid (Clear (.slice Ao m co) M' C') ∧ Hid (Turn w.heap.size b w wr) ∧ Hid (LookAt lo b A n c A' n' c' D S z p' a' A5 n5 c5 M' C' R' wr) ∧ Hid (validD D p' S (a' : Int) = true) ∧ m + R'.length + (D.length - p'.toNat) ≤ 60 ∧ Hid (fullGo D S z 61 (62 - j) p' a' R' out = T)) (fun o _ => 61 - lenV o)
  case atStart => exact ⟨0, 0, 0, none, [], p, a, R, A2, n2, c2, M, C, rfl, by omega, by omega, by omega, OwnI.nil_ _ _, fun x hx => (by cases hx), Clear.nil _ _, Turn.refl _ _ _, HL, HV, by omega, HT⟩
  case round =>
    obtain ⟨j, m, co, Ao, out, p', a', R', A5, n5, c5, M', C', rfl, hj, hm, ha', ho, hok, hcl, ht, hl, hv, hk, hg⟩ := hrel
    have hml : m = out.length := ho.out.len
    have hsz := ht.out.size
    obtain ⟨hv1, hk1, hpos, ha1⟩ := fl_step (R := R') hv.out (by omega) hz
    have hrec := hg.out
    rw [show 62 - j = (62 - (j + 1)) + 1 from by omega, fullGo, if_neg (by omega)] at hrec
    have HREC := Lib.hid hrec
    have HV1 := Lib.hid hv1
    have HML := Lib.hid hml
    clear hrec hg hv1
    by_cases hst : flS D S p' a' R' = 0
    · have hcall := fun k0 => some_ok (k := 60) hl.out hv.out (by omega) hz hz' k0 hst
      have HC := Lib.hid hcall
      have HST := Lib.hid hst
      have HP := Lib.hid hpos
      clear hcall hst hpos hml
      go_wp2_with fail
      refine (HC.out (by omega)).mono ?_
      rintro e w1 ⟨A1, mm, A6, n6, c6, M6, C6, rfl, hmm, ht1, hl1, hi1, _, _, hor⟩
      have hs1 := ht1.size
      have HL1 := Lib.hid hl1
      have HI1 := Lib.hid hi1
      have HO1 := Lib.hid (ho.out.turn ht1 (Nat.le_refl _) hbw)
      have HT1 := Lib.hid (ht.out.trans (ht1.mono hsz))
      have HC1 : Hid (Clear (.slice Ao m co) M6 C6) := by
        show Clear _ _ _
        rcases hor with ⟨rfl, rfl⟩ | h
        · exact hcl.out
        · exact ho.out.clear h
      have HMM := Lib.hid hmm
      have HE : Hid (min (61 - out.length) (flR D S z p' a' R').length = mm) := by
        show _ = _
        have := HML.out
        omega
      have hm60 : mm ≤ (flR D S z p' a' R').length := by omega
      clear hl1 hi1 ht1 hor ho hl ht hcl hmm
      go_wp2_with (at_builtin; refine wpList_append_at rfl _ _ rfl w.heap.size (.slice Ao m co) m _ rfl HO1.out _ mm mm _ rfl HI1.out (by omega) (by omega) ?_)
      intro v' w2 hown hgr hob
      have hok2 : ∀ x ∈ out ++ List.take mm (flR D S z p' a' R'), okInt x := by
        intro x hx
        rcases List.mem_append.1 hx with h | h
        · exact hok.out x h
        · exact HI1.out.ok x h
      obtain ⟨A3, c3, rfl, _, _⟩ := hown.ints hok2
      have HO2 := Lib.hid hown
      have HK2 := Lib.hid hok2
      have HB2 := below_grown HO1.out hgr (by omega)
      have HT2 := Lib.hid (HT1.out.step HB2 (Nat.le_refl _))
      have HL2 := Lib.hid (HL1.out.grown hgr (fun k hk => ⟨HC1.out k hk, by have := (HO1.out.lt k hk).1; omega⟩))
      have HC2 := Lib.hid (HC1.out.later HL1.out.2.2.2.1.2.2 hob)
      have hR : Hid (fullGo D S z 61 (62 - (j + 1)) (flP D S z p' a' R') (flA a' R') (List.drop mm (flR D S z p' a' R')) (out ++ List.take mm (flR D S z p' a' R')) = T) := by
        show _ = T
        have h1 := HREC.out
        rw [if_pos HST.out, HE.out] at h1
        exact h1
      have hpm : 1 ≤ mm := by have := HP.out HST.out; have := HMM.out; omega
      have hdl : (List.drop mm (flR D S z p' a' R')).length ≤ (flR D S z p' a' R').length - mm := by rw [List.length_drop]; omega
      clear hown hok2 hgr hob HB2 HREC HC
      go_wp2
      go_roundw
      case rel => exact ⟨j + 1, m + mm, c3, A3, _, _, _, _, A6, n6, c6, M6, C6, rfl, by omega, by omega, by omega, HO2, HK2, HC2, HT2, HL2, HV1, by omega, hR⟩
      case measure => simp [lenV]; omega
    · have hcall := some_no (k := 60) hl.out hv.out (by omega) hz hz' hst
      have hne : (flS D S p' a' R' != 0) = true := by simpa using hst
      have HTT : Hid (T = ⟨flP D S z p' a' R', flA a' R', flR D S z p' a' R', out, flS D S p' a' R'⟩) := by
        show T = _
        have h1 := HREC.out
        rw [if_neg hst] at h1
        exact h1.symm
      have HC := Lib.hid hcall
      clear hcall hst hpos hml HREC
      obtain ⟨st, hs⟩ : ∃ st, flS D S p' a' R' = st := ⟨_, rfl⟩
      rw [hs] at hne HTT HC
      clear hs
      go_wp2_with fail
      refine HC.out.mono ?_
      rintro e w1 ⟨A6, n6, c6, M6, C6, rfl, ht1, hl1, hor⟩
      have hs1 := ht1.size
      have HL1 := Lib.hid hl1
      have HO1 := Lib.hid (ho.out.turn ht1 (Nat.le_refl _) hbw)
      have HT1 := Lib.hid (ht.out.trans (ht1.mono hsz))
      have HC1 : Hid (Clear (.slice Ao m co) M6 C6) := ho.out.clear hor
      clear hl1 ht1 hor ho hl ht hcl
      go_wp2
      go_ret2
      rw [HTT.out]
      obtain ⟨A3, c3, e3, hc3, hi3⟩ := HO1.out.ints hok.out
      injection e3 with e1 _ e2
      subst e1; subst e2
      exact ⟨Ao, m, co, A6, n6, c6, M6, C6, rfl, hc3, HT1.out, HL1.out, hi3, HO1.out.apart HC1.out HL1.out.2.1.2.2⟩
/-- Reading on byte by byte up to one that is bb, or until there are N. -/
def untilGo (D S : List Int) (z : Int) (N : Nat) (bb : Int) : Nat → Int → Nat → List Int → List Int → Rs
  | 0, p, a, R, out => ⟨p, a, R, out, 0⟩
  | f + 1, p, a, R, out => if N ≤ out.length then ⟨p, a, R, out, 0⟩ else
      if flS D S p a R = 0 then
        (if (flR D S z p a R).headD 0 = bb then ⟨flP D S z p a R, flA a R, (flR D S z p a R).drop 1, out ++ (flR D S z p a R).take 1, 0⟩
        else untilGo D S z N bb f (flP D S z p a R) (flA a R) ((flR D S z p a R).drop 1) (out ++ (flR D S z p a R).take 1))
      else ⟨flP D S z p a R, flA a R, flR D S z p a R, out, flS D S p a R⟩

set_option maxHeartbeats 2000000 in
theorem until_any {lo b n c n' c' a n2 c2 M C N : Nat} {A A' A2 : Option Addr} {D S R : List Int} {z p bb : Int} {w : World} (h : LookAt lo b A n c A' n' c' D S z p a A2 n2 c2 M C R w) (hv : validD D p S (a : Int) = true) (ha : a ≤ 900) (hz : 1 ≤ z) (hz' : z ≤ 60) (hK : R.length + (D.length - p.toNat) ≤ 60) (hN : N ≤ 60) :
    Calls Try.prog 54 #[.pointer (some ⟨b, 0, none⟩), .int .i64 bb, .int .i64 (N : Int)] w (WorkPost lo b A n c A' n' c' D S z (untilGo D S z N bb 62 p a R []) w) := by
  obtain ⟨T, hT⟩ : ∃ T, untilGo D S z N bb 62 p a R [] = T := ⟨_, rfl⟩
  rw [hT]
  have HT := Lib.hid hT
  have HL := Lib.hid h
  have HV := Lib.hid hv
  have hbw := h.1.lt
  clear hT h hv
  go_enter Try.func54, Try.ntmps54
  go_wp2
  go_loopw [8] (fun o wr => ∃ (j m co : Nat) (Ao : Option Addr) (out : List Int) (p' : Int) (a' : Nat) (R' : List Int) (A5 : Option Addr) (n5 c5 M' C' : Nat), o = .slice Ao m co ∧ j ≤ m ∧ m ≤ N ∧ a' ≤ a + m ∧ Hid (OwnI wr w.heap.size (.slice Ao m co) m out) ∧ Hid (∀ x ∈ out, okInt x) ∧ Hid (Clear (.slice Ao m co) M' C') ∧ Hid (Turn w.heap.size b w wr) ∧ Hid (LookAt lo b A n c A' n' c' D S z p' a' A5 n5 c5 M' C' R' wr) ∧ Hid (validD D p' S (a' : Int) = true) ∧ R'.length + (D.length - p'.toNat) ≤ 60 ∧ Hid (untilGo D S z N bb (62 - j) p' a' R' out = T)) (fun o _ => N - lenV o)
  case atStart => exact ⟨0, 0, 0, none, [], p, a, R, A2, n2, c2, M, C, rfl, by omega, by omega, by omega, OwnI.nil_ _ _, fun x hx => (by cases hx), Clear.nil _ _, Turn.refl _ _ _, HL, HV, hK, HT⟩
  case round =>
    obtain ⟨j, m, co, Ao, out, p', a', R', A5, n5, c5, M', C', rfl, hj, hm, ha', ho, hok, hcl, ht, hl, hv, hk, hg⟩ := hrel
    have hml : m = out.length := ho.out.len
    have hsz := ht.out.size
    by_cases hlt : m < N
    · have hlti : (m : Int) < (N : Int) := by omega
      obtain ⟨hv1, hk1, hpos, ha1⟩ := fl_step (R := R') hv.out (by omega) hz
      have hrec := hg.out
      rw [show 62 - j = (62 - (j + 1)) + 1 from by omega, untilGo, if_neg (by omega)] at hrec
      have HREC := Lib.hid hrec
      have HV1 := Lib.hid hv1
      have HML := Lib.hid hml
      clear hrec hg hv1
      by_cases hst : flS D S p' a' R' = 0
      · have hcall := fun k0 => some_ok (k := 1) hl.out hv.out (by omega) hz hz' k0 hst
        have HC := Lib.hid hcall
        have HST := Lib.hid hst
        have HP := Lib.hid hpos
        clear hcall hst hpos hml
        go_wp2_with fail
        refine (HC.out (by omega)).mono ?_
        rintro e w1 ⟨A1, mm, A6, n6, c6, M6, C6, rfl, hmm, ht1, hl1, hi1, _, _, hor⟩
        have hs1 := ht1.size
        have HL1 := Lib.hid hl1
        have HI1 := Lib.hid hi1
        have HO1 := Lib.hid (ho.out.turn ht1 (Nat.le_refl _) hbw)
        have HT1 := Lib.hid (ht.out.trans (ht1.mono hsz))
        have HC1 : Hid (Clear (.slice Ao m co) M6 C6) := by
          show Clear _ _ _
          rcases hor with ⟨rfl, rfl⟩ | h
          · exact hcl.out
          · exact ho.out.clear h
        obtain rfl : mm = 1 := by have := HP.out HST.out; omega
        obtain ⟨x, L', hxl⟩ : ∃ x L', flR D S z p' a' R' = x :: L' := by
          cases h : flR D S z p' a' R' with
          | nil => have := HP.out HST.out; rw [h] at this; simp at this
          | cons x L' => exact ⟨x, L', rfl⟩
        have HXL := Lib.hid hxl
        clear hl1 hi1 ht1 hor ho hl ht hcl hmm hxl
        go_wp2_with (at_builtin; refine wpList_append_at rfl _ _ rfl w.heap.size (.slice Ao m co) m _ rfl HO1.out _ 1 1 _ rfl HI1.out (by omega) (by omega) ?_)
        intro v' w2 hown hgr hob
        have hok2 : ∀ x ∈ out ++ List.take 1 (flR D S z p' a' R'), okInt x := by
          intro x hx
          rcases List.mem_append.1 hx with h | h
          · exact hok.out x h
          · exact HI1.out.ok x h
        obtain ⟨A3, c3, rfl, hc3, hi3⟩ := hown.ints hok2
        have HI3 := Lib.hid hi3
        have HO2 := Lib.hid hown
        have HK2 := Lib.hid hok2
        have HB2 := below_grown HO1.out hgr (by omega)
        have HT2 := Lib.hid (HT1.out.step HB2 (Nat.le_refl _))
        have HL2 := Lib.hid (HL1.out.grown hgr (fun k hk => ⟨HC1.out k hk, by have := (HO1.out.lt k hk).1; omega⟩))
        have HC2 := Lib.hid (HC1.out.later HL1.out.2.2.2.1.2.2 hob)
        have hI2 := HI1.out.grown hgr HC1.out HL1.out.2.2.2.1.2.2
        rw [HXL.out] at hI2
        obtain ⟨bx, ox, y, rfl, _, hcy, hy⟩ := hI2.at_ (k := 0) (by omega)
        obtain rfl : x = y := by have := hy.out; simpa using this
        have hcz : w2.cell? ⟨bx, ox, none⟩ = some (.int .i64 x) := hcy
        clear hcy
        have hhd : (flR D S z p' a' R').headD 0 = x := by rw [HXL.out]; rfl
        have HHD := Lib.hid hhd
        have hdl : (List.drop 1 (flR D S z p' a' R')).length ≤ (flR D S z p' a' R').length := by rw [List.length_drop]; omega
        clear hown hok2 hgr hob HB2 HC hI2 hi3 hhd
        by_cases hxb : x = bb
        · have HTT : Hid (T = ⟨flP D S z p' a' R', flA a' R', List.drop 1 (flR D S z p' a' R'), out ++ List.take 1 (flR D S z p' a' R'), 0⟩) := by
            show T = _
            have h1 := HREC.out
            rw [if_pos HST.out, if_pos (by rw [HHD.out]; exact hxb)] at h1
            exact h1.symm
          subst hxb
          clear HREC hdl
          go_wp2
          go_ret2
          rw [HTT.out]
          exact ⟨A3, m + 1, c3, A6, n6, c6, M6, C6, rfl, hc3, HT2.out, HL2.out, HI3.out, HO2.out.apart HC2.out HL2.out.2.1.2.2⟩
        · have hxe : (x == bb) = false := by simpa using hxb
          have hR : Hid (untilGo D S z N bb (62 - (j + 1)) (flP D S z p' a' R') (flA a' R') (List.drop 1 (flR D S z p' a' R')) (out ++ List.take 1 (flR D S z p' a' R')) = T) := by
            show _ = T
            have h1 := HREC.out
            rw [if_pos HST.out, if_neg (by rw [HHD.out]; exact hxb)] at h1
            exact h1
          clear HREC hxb HI3
          go_wp2
          go_roundw
          case rel => exact ⟨j + 1, m + 1, c3, A3, _, _, _, _, A6, n6, c6, M6, C6, rfl, by omega, by omega, by omega, HO2, HK2, HC2, HT2, HL2, HV1, by omega, hR⟩
          case measure => simp [lenV]; omega
      · have hcall := some_no (k := 1) hl.out hv.out (by omega) hz hz' hst
        have hne : (flS D S p' a' R' != 0) = true := by simpa using hst
        have HTT : Hid (T = ⟨flP D S z p' a' R', flA a' R', flR D S z p' a' R', out, flS D S p' a' R'⟩) := by
          show T = _
          have h1 := HREC.out
          rw [if_neg hst] at h1
          exact h1.symm
        have HC := Lib.hid hcall
        clear hcall hst hpos hml HREC
        obtain ⟨st, hs⟩ : ∃ st, flS D S p' a' R' = st := ⟨_, rfl⟩
        rw [hs] at hne HTT HC
        clear hs
        go_wp2_with fail
        refine HC.out.mono ?_
        rintro e w1 ⟨A6, n6, c6, M6, C6, rfl, ht1, hl1, hor⟩
        have hs1 := ht1.size
        have HL1 := Lib.hid hl1
        have HO1 := Lib.hid (ho.out.turn ht1 (Nat.le_refl _) hbw)
        have HT1 := Lib.hid (ht.out.trans (ht1.mono hsz))
        have HC1 : Hid (Clear (.slice Ao m co) M6 C6) := ho.out.clear hor
        clear hl1 ht1 hor ho hl ht hcl
        go_wp2
        go_ret2
        rw [HTT.out]
        obtain ⟨A3, c3, e3, hc3, hi3⟩ := HO1.out.ints hok.out
        injection e3 with e1 _ e2
        subst e1; subst e2
        exact ⟨Ao, m, co, A6, n6, c6, M6, C6, rfl, hc3, HT1.out, HL1.out, hi3, HO1.out.apart HC1.out HL1.out.2.1.2.2⟩
    · have hlti : ¬ (m : Int) < (N : Int) := by omega
      have HTT : Hid (T = ⟨p', a', R', out, 0⟩) := by
        show T = _
        have h1 := hg.out
        rw [show 62 - j = (62 - (j + 1)) + 1 from by omega, untilGo, if_pos (by omega)] at h1
        exact h1.symm
      clear hg hml
      go_wp2
      go_ret2
      rw [HTT.out]
      obtain ⟨A3, c3, e3, hc3, hi3⟩ := ho.out.ints hok.out
      injection e3 with e1 _ e2
      subst e1; subst e2
      exact ⟨Ao, m, co, A5, n5, c5, M', C', rfl, hc3, ht.out, hl.out, hi3, ho.out.apart hcl.out hl.out.2.1.2.2⟩
end Go.Proofs.Ytmjmplfhedknhaa
