/- A writer at work: what its flush leaves; the program's flush. -/
import Derived.Test.YtdiebkaedjlckaaDoorER2
import Derived.Test.YtdiebkaedjlckaaDoorFU
import Derived.Test.YtdiebkaedjlckaaDoorC3a
import Derived.Test.YtdiebkaedjlckaaDoorApp2
import Derived.StillTailTactics
import Derived.Deep.DeepCutAuto
namespace Go.Proofs.YtdiebkaedjlckaaDoor
open Go.ChangeShapes Go.WideShapes Go.ChangeAt Go.RowKit
set_option linter.unusedSimpArgs false
set_option linter.unusedVariables false
set_option maxRecDepth 10000

def FlushPost (lo b : Nat) (A' : Option Addr) (n' c' : Nat) (S : List Int) (z : Int) (a0 a1 a2 : Addr) (T : Fv) (w : World) (e : Ending) (w' : World) : Prop :=
  ∃ A1 n1 c1 A5 n5 c5 M C M2 C2, e = .returned (errV a0 a1 a2 T.st) ∧ Turn w.heap.size b w w' ∧ BackAt lo b A1 n1 c1 A' n' c' T.d S z T.p T.q A5 n5 c5 T.r M C M2 C2 w'

/-- Behind the deferred literal, which counts the calls. -/
theorem flush_end {lo b n c n' c' n2 c2 q0 M C M2 C2 j : Nat} {A A' A2 : Option Addr} {D S R : List Int} {z p : Int} {w w1 : World} (ht : Turn w.heap.size b w w1) (h : BackAt lo b A n c A' n' c' D S z p q0 A2 n2 c2 R M C M2 C2 w1) :
    Turn w.heap.size b w (w1.drew.setCell ⟨b, 3, none⟩ (.int .i64 ((q0 : Int) + (j : Int)))) ∧ BackAt lo b A n c A' n' c' D S z p (q0 + j) A2 n2 c2 R M C M2 C2 (w1.drew.setCell ⟨b, 3, none⟩ (.int .i64 ((q0 : Int) + (j : Int)))) := by
  obtain ⟨h1, ⟨h2, h3, h4⟩, ⟨h5, h5'⟩, ⟨h6, h7, h8, h9, h10, hms⟩, h11⟩ := h
  refine ⟨ht.drew.put _, ?_, ⟨h2.drew.set_ h5 _, h3.drew.set_ (.inr (Nat.le_refl _)) _, h4.drew.set_ h5' _⟩, ⟨h5, h5'⟩, ⟨h6, h7, h8, by simpa using h9, by simpa using h10, by simpa using hms⟩, h11⟩
  have hx := h1.drew.put (i := 3) (by simp) (.int .i64 ((q0 : Int) + (j : Int)))
  rw [show ((q0 + j : Nat) : Int) = (q0 : Int) + (j : Int) by omega]
  simpa using hx

set_option maxHeartbeats 8000000 in
theorem flush_any {lo b n c n' c' n2 c2 q0 M C M2 C2 E : Nat} {A A' A2 : Option Addr} {D S R : List Int} {z p : Int} {a0 a1 a2 : Addr} {w : World} (h : BackAt lo b A n c A' n' c' D S z p q0 A2 n2 c2 R M C M2 C2 w) (hE : Errs w E a0 a1 a2) (hElo : E ≤ lo) (hv : validD D p S (q0 : Int) = true) (hq : q0 ≤ 900) (hR : R.length ≤ 16) (hR2 : allB R 0 255 = true) :
    Calls Tryd.prog 102 #[.pointer (some ⟨b, 0, none⟩)] w (FlushPost lo b A' n' c' S z a0 a1 a2 (fuGo S R.length D p q0 R) w) := by
  obtain ⟨T, hT⟩ : ∃ T, fuGo S R.length D p q0 R = T := ⟨_, rfl⟩
  rw [hT]
  have HT := Lib.hid hT
  have HB := Lib.hid h
  have HV := Lib.hid hv
  have HE := Lib.hid hE
  have HR2 := Lib.hid hR2
  have hbw := h.1.lt
  have hlob := h.2.2.2.1.1
  clear hT h hv hE hR2
  have hmf : ∀ (fn : Fn) (first cap : Array Value) (w : World), (Instr.makeFunc fn first cap).run Tryd.prog w = .ok (.func fn first cap) w := fun _ _ _ _ => rfl
  have KB0 : Hid (Box ((w.alloc (.cells #[.pointer (some ⟨b, 0, none⟩)] 103)).alloc (.cells #[.int .i64 0] 3)) w.heap.size [.pointer (some ⟨b, 0, none⟩)]) := (Box.new w 103 [.pointer (some ⟨b, 0, none⟩)]).alloc _
  have KC0 : Hid (Box ((w.alloc (.cells #[.pointer (some ⟨b, 0, none⟩)] 103)).alloc (.cells #[.int .i64 0] 3)) (w.heap.size + 1) [.int .i64 ((0 : Nat) : Int)]) := by
    have hx := Box.new (w.alloc (.cells #[.pointer (some ⟨b, 0, none⟩)] 103)) 3 [.int .i64 0]
    rw [World.size_alloc] at hx
    exact hx
  have TR0 : Hid (Turn w.heap.size b w ((w.alloc (.cells #[.pointer (some ⟨b, 0, none⟩)] 103)).alloc (.cells #[.int .i64 0] 3))) := Turn.of_below (by go_grown : Below w.heap.size w _) (Nat.le_refl _)
  have BK0 := Lib.hid (HB.out.below (by go_grown : Below w.heap.size w ((w.alloc (.cells #[.pointer (some ⟨b, 0, none⟩)] 103)).alloc (.cells #[.int .i64 0] 3))) (Nat.le_refl _))
  have MEAS0 : Hid (∀ (A : Option Addr) (k l : Nat), lenV ((some (Value.slice A k l)).getD .nilIface) = k) := fun _ _ _ => rfl
  have hn2 := HB.out.2.1.2.2.len
  have hC2w := HB.out.2.2.2.1.2.2.2.2.1
  have hCw := HB.out.2.2.2.1.2.2.2.1
  go_enter_defers Tryd.func102, Tryd.ntmps102
  go_wp2
  go_loopw [4] (fun v wr => ∃ (j : Nat) (A1 : Option Addr) (n1 c1 : Nat) (D1 : List Int) (p1 : Int) (A5 : Option Addr) (n5 c5 : Nat) (R1 : List Int) (M1 C1 : Nat), j + n5 ≤ R.length ∧ Hid (Box wr w.heap.size [.pointer (some ⟨b, 0, none⟩)]) ∧ Hid (Box wr (w.heap.size + 1) [.int .i64 (j : Int)]) ∧ (w.heap.size + 2 ≤ M1 ∨ C1 ≤ w.heap.size) ∧ Hid (Turn w.heap.size b w wr) ∧ Hid (BackAt lo b A1 n1 c1 A' n' c' D1 S z p1 q0 A5 n5 c5 R1 M1 C1 M2 C2 wr) ∧ Hid (validD D1 p1 S ((q0 + j : Nat) : Int) = true) ∧ Hid (allB R1 0 255 = true) ∧ Hid (fuGo S (R.length - j) D1 p1 (q0 + j) R1 = T)) (fun _ wr => lenV ((wr.cell? ⟨b, 4, none⟩).getD .nilIface))
  case atStart => exact ⟨0, A, n, c, D, p, A2, n2, c2, R, M, C, by omega, KB0, KC0, .inr hCw, TR0, BK0, HV, HR2, HT⟩
  case round =>
    clear KB0 KC0 TR0 BK0 HT HV HR2 hmf
    obtain ⟨j, A1, n1, c1, D1, p1, A5, n5, c5, R1, M1, C1, hj, hkb, hkc, hM1, ht, hbk, hv1, hr1, hg⟩ := hrel
    have hsz := ht.out.size
    have KB0 := Lib.hid hkb.out
    have KC0 := Lib.hid hkc.out
    obtain ⟨hX, ⟨hD, hS, hR5⟩, ⟨hbM, hbM5⟩, ⟨h6, h7, h8, h9, h10, hms⟩, ⟨h11, h12⟩, hap⟩ := hbk.out
    have hl5 := hR5.len
    have X1 := Lib.hid hX
    have hD0 := Lib.hid hD
    have hS0 := Lib.hid hS
    have hR0 := Lib.hid hR5
    have hap0 := Lib.hid hap
    clear hX hD hS hR5 hap hkb hkc
    have x3 := (X1.out.2 3 _ rfl).1
    have x4 := (X1.out.2 4 _ rfl).1
    have XW := Lib.hid x4
    have k0 := (KB0.out.2 0 _ rfl).1
    have c0 := (KC0.out.2 0 _ rfl).1
    by_cases h0 : n5 = 0
    · subst h0
      obtain rfl : R1 = [] := List.eq_nil_of_length_eq_zero hl5.symm
      have HTT : Hid (T = ⟨D1, p1, q0 + j, [], 0⟩) := by
        show T = _
        have h1 := hg.out
        rw [fuGo_nil] at h1
        exact h1.symm
      clear hg hl5
      go_wp2
      refine leaves_cons (f := 124) (args := #[.pointer (some ⟨w.heap.size, 0, none⟩), .pointer (some ⟨w.heap.size + 1, 0, none⟩)]) (by simp) (by simp [go_sem]) ?_
      refine (flushDefer_any (m := j) X1.out KB0.out KC0.out (by omega) (by omega)).mono ?_
      rintro e u' w9 ⟨rfl, rfl, rfl⟩
      obtain ⟨e1, e2⟩ := flush_end (j := j) ht.out hbk.out
      refine ⟨_, results_tmp rfl _ _ _, ?_⟩
      refine ⟨A1, n1, c1, A5, 0, c5, M1, C1, M2, C2, ?_, ?_, ?_⟩
      · rw [HTT.out]; rfl
      · exact e1
      · rw [HTT.out]; exact e2
    · have hgt : (0 : Int) < (n5 : Int) := by omega
      have hne : ¬ R1 = [] := by rintro rfl; simp at hl5; omega
      obtain ⟨_, hs12, hsa, ⟨hp0, hp1⟩, _⟩ := validD_iff.1 hv1.out
      have hw : IntKind.i64.wrap ((q0 : Int) + (j : Int)) = (q0 : Int) + (j : Int) := IntWalk.i64_in _ (by omega)
      have hw1 : IntKind.i64.wrap ((j : Int) + 1) = (j : Int) + 1 := IntWalk.i64_in _ (by omega)
      have hcall := writeAs_any (w := wr.drew) (a := q0 + j) (more := [.slice A5 n5 c5, .int .i64 z]) X1.out.drew hD0.out.drew hS0.out.drew hR0.out.drew hbM (.inr (Nat.le_refl _)) hbM5 (by simp; omega) (by have := X1.out.lt; simp; omega) (by simp; omega) h11 hv1.out (by omega) (by omega) h12 (by have := X1.out.lt; simp; omega)
      rw [show ((q0 + j : Nat) : Int) = (q0 : Int) + (j : Int) by omega] at hcall
      obtain ⟨k, hk⟩ : ∃ k, mayAt S (q0 + j) = k := ⟨_, rfl⟩
      rw [hk] at hcall
      clear hs12 hsa
      by_cases hst : wrSt p1 k = 0
      · obtain ⟨m1, m2, m3⟩ := wrM_ok (n := R1.length) hst hp0 (by omega)
        obtain ⟨mm, hmm⟩ : ∃ mm, wrM p1 k R1.length = mm := ⟨_, rfl⟩
        rw [hmm] at m1 m2 m3
        have HV2 := Lib.hid (fu_valid (k := k) hv1.out hr1.out hst (by omega) (by omega))
        rw [hmm, Nat.add_assoc q0 j 1] at HV2
        have HG2 : Hid (fuGo S (R.length - (j + 1)) (wrL D1 p1.toNat (R1.take mm)) (p1 + (mm : Int)) (q0 + (j + 1)) (R1.drop mm) = T) := by
          have h1 := hg.out
          rw [show R.length - j = (R.length - (j + 1)) + 1 from by omega, fuGo, if_neg hne, hk, if_pos hst, hmm] at h1
          exact h1
        have HR2 := Lib.hid (allB_drop hr1.out mm)
        unfold WriteAsPost at hcall
        rw [hmm, hst] at hcall
        have HC := Lib.hid hcall
        have HM := Lib.hid hmm
        have m2n : mm ≤ n5 := by omega
        clear hcall hmm hst hg hne m2 hl5
        go_wp2_with fail
        go_region_held3 (fun w' => w'.cell? ⟨w.heap.size, 0, none⟩ = some (.pointer (some ⟨b, 0, none⟩)) ∧ w'.cell? ⟨w.heap.size + 1, 0, none⟩ = some (.int .i64 (j : Int)) ∧ w'.cell? ⟨b, 3, none⟩ = some (.int .i64 (q0 : Int)) ∧ w'.cell? ⟨b, 4, none⟩ = some (.slice A5 n5 c5)) (go_keep)
          ((go_at_call 125; refine HC.out.mono ?_; rintro e w1 ⟨A6, n6, c6, rfl, hc6, ht1, hi1, hx1, hor⟩; (try simp only [World.size_alloc, World.size_setCell, World.size_drew] at ht1 hi1 hor); have hs1 := ht1.size; (try simp only [World.size_alloc, World.size_setCell, World.size_drew] at hs1); have X2 := Lib.hid hx1; have HI1 := Lib.hid hi1; have HOR := Lib.hid hor; have HT1 : Hid (Turn wr.heap.size b wr w1) := ht1; clear hx1 hi1 hor ht1; have KB1 := Lib.hid (KB0.out.turn HT1.out (by have := KB0.out.lt; omega) (by omega)); have KC1 := Lib.hid (KC0.out.turn HT1.out (by have := KC0.out.lt; omega) (by omega)); clear x3 x4 k0 c0; have x3 := (X2.out.2 3 _ rfl).1; have x4 := (X2.out.2 4 _ rfl).1; have f4 := (X2.out.2 4 _ rfl).2; have k0 := (KB1.out.2 0 _ rfl).1; have c0 := (KC1.out.2 0 _ rfl).1; have cf0 := (KC1.out.2 0 _ rfl).2))
        have D6 : ∃ M6 C6, (w.heap.size + 2 ≤ M6 ∨ C6 ≤ w.heap.size) ∧ (b < M6 ∨ C6 ≤ b) ∧ lo ≤ M6 ∧ C6 ≤ w1.heap.size ∧ M6 ≤ w1.heap.size ∧ Hid (Ints w1 M6 C6 A6 n6 (wrL D1 p1.toNat (R1.take mm))) ∧ Apart A6 n6 A' n' ∧ Apart A5 n5 A6 n6 := by
          have hlt9 := KC0.out.lt
          rcases HOR.out with ⟨rfl, rfl⟩ | h2
          · exact ⟨M1, C1, hM1, hbM, h7, by omega, by omega, HI1.out.narrow hD0.out, hap0.out.1, hap0.out.2.1⟩
          · exact ⟨wr.heap.size, w1.heap.size, .inl (by omega), .inl (by omega), by omega, Nat.le_refl _, by omega, h2, (Apart.of_le hS0.out h2 (by omega)).symm, Apart.of_le hR0.out h2 (by omega)⟩
        obtain ⟨M6, C6, hM6, hbM6, hlo6, hC6, hMs6, HD6, ap6, ap62⟩ := D6
        have HAP6 := Lib.hid (And.intro ap6 ap62)
        clear ap6 ap62 HOR HI1
        have BK1 : Hid (BackAt lo b A6 n6 c6 A' n' c' (wrL D1 p1.toNat (R1.take mm)) S z (p1 + (mm : Int)) q0 A5 n5 c5 R1 M6 C6 M2 C2 w1) :=
          ⟨X2.out, ⟨HD6.out, hS0.out.turn HT1.out (by omega) (.inr (Nat.le_refl _)), hR0.out.turn HT1.out (by omega) hbM5⟩, ⟨hbM6, hbM5⟩, ⟨h6, hlo6, h8, hC6, by omega, hMs6⟩, ⟨hc6, h12⟩, HAP6.out.1, HAP6.out.2, hap0.out.2.2⟩
        have BK2 : Hid (BackAt lo b A6 n6 c6 A' n' c' (wrL D1 p1.toNat (R1.take mm)) S z (p1 + (mm : Int)) q0 A5 n5 c5 R1 M6 C6 M2 C2 (w1.setCell ⟨w.heap.size + 1, 0, none⟩ (.int .i64 ((j : Int) + 1)))) := BK1.out.set_ (by omega) (by omega) (by omega) _
        have KB2 : Hid (Box (w1.setCell ⟨w.heap.size + 1, 0, none⟩ (.int .i64 ((j : Int) + 1))) w.heap.size [.pointer (some ⟨b, 0, none⟩)]) := KB1.out.set_ (by omega) _
        have KC2 : Hid (Box (w1.setCell ⟨w.heap.size + 1, 0, none⟩ (.int .i64 ((j : Int) + 1))) (w.heap.size + 1) [.int .i64 ((j : Int) + 1)]) := by
          show Box _ _ _
          have hx := KC1.out.put (i := 0) (by simp) (.int .i64 ((j : Int) + 1))
          simpa using hx
        have TR2 : Hid (Turn w.heap.size b w (w1.setCell ⟨w.heap.size + 1, 0, none⟩ (.int .i64 ((j : Int) + 1)))) := by
          show Turn _ _ _ _
          refine (ht.out.trans (HT1.out.mono hsz)).trans ⟨rfl, rfl, rfl, by simp, fun k hk _ => Below.heap_setCell w1 ⟨w.heap.size + 1, 0, none⟩ _ k (by show k ≠ w.heap.size + 1; omega)⟩
        have E2 : Hid (Errs (w1.setCell ⟨w.heap.size + 1, 0, none⟩ (.int .i64 ((j : Int) + 1))) E a0 a1 a2) := HE.out.turn TR2.out (by omega) (by omega)
        have s2 : (w1.setCell ⟨w.heap.size + 1, 0, none⟩ (.int .i64 ((j : Int) + 1))).heap.size = w1.heap.size := by simp
        go_upto_region 6 with (fail)
        generalize w1.setCell ⟨w.heap.size + 1, 0, none⟩ (.int .i64 ((j : Int) + 1)) = w2 at *
        clear x3 x4 f4 k0 c0 cf0 X2 BK1 KB1 KC1
        go_wp2_with fail
        refine (failureOf_any E2.out (.inl rfl)).mono ?_
        rintro e w3 ⟨rfl, rfl⟩
        rw [show errV a0 a1 a2 0 = .nilIface from rfl]
        have hmc : (mm : Int) ≤ (c5 : Int) := by omega
        have hm0 : (0 : Int) ≤ (mm : Int) := by omega
        have x4 := (BK2.out.1.2 4 _ rfl).1
        have f4 := (BK2.out.1.2 4 _ rfl).2
        have k0 := (KB2.out.2 0 _ rfl).1
        have hcell := x4
        by_cases hcm : c5 = mm
        · go_wp2_with fail
          go_still_tail 9, (by kernel_rfl)
          change wpList _ _ _ _ _ w2.drew
          go_wp2
          go_roundw
          case rel =>
            obtain ⟨b1, ⟨b2, b3, b4⟩, b5, ⟨b6, b7, b8, b9, b10, bms⟩, ⟨b11, b12⟩, b13, b14, b15⟩ := BK2.out
            refine ⟨j + 1, A6, n6, c6, wrL D1 p1.toNat (R1.take mm), p1 + (mm : Int), A5, n5 - mm, 0, R1.drop mm, M6, C6, by omega, (KB2.out.set_ (by omega) _).drew, ?_, hM6, (TR2.out.put _).drew, ⟨?_, ⟨(b2.set_ b5.1 _).drew, (b3.set_ (.inr (Nat.le_refl _)) _).drew, ((b4.droppedW (by omega) A5).set_ b5.2 _).drew⟩, b5, ⟨b6, b7, b8, by simpa using b9, by simpa using b10, by simpa using bms⟩, ⟨b11, by omega⟩, b13, (by rw [show n5 - mm = 0 by omega]; exact Apart.zero.symm), (by rw [show n5 - mm = 0 by omega]; exact Apart.zero.symm)⟩, HV2.out, HR2.out, HG2.out⟩
            · show Box _ _ _
              have hx := (KC2.out.set_ (b' := b) (o := 4) (by omega) (.slice (A5) (n5 - mm) (0))).drew
              simpa using hx
            · have hx := (b1.put (i := 4) (by simp) (.slice (A5) (n5 - mm) (0))).drew
              simpa using hx
          case measure =>
            have hx := ((BK2.out.1.put (i := 4) (by simp) (.slice (A5) (n5 - mm) (0))).drew.2 4 _ rfl).1
            simp only [XW.out, hx, Option.getD_some, lenV]
            omega
        · go_wp2_with fail
          go_still_tail 9, (by kernel_rfl)
          change wpList _ _ _ _ _ w2.drew
          go_wp2
          go_roundw
          case rel =>
            obtain ⟨b1, ⟨b2, b3, b4⟩, b5, ⟨b6, b7, b8, b9, b10, bms⟩, ⟨b11, b12⟩, b13, b14, b15⟩ := BK2.out
            refine ⟨j + 1, A6, n6, c6, wrL D1 p1.toNat (R1.take mm), p1 + (mm : Int), A5.map fun x => x.add mm, n5 - mm, c5 - mm, R1.drop mm, M6, C6, by omega, (KB2.out.set_ (by omega) _).drew, ?_, hM6, (TR2.out.put _).drew, ⟨?_, ⟨(b2.set_ b5.1 _).drew, (b3.set_ (.inr (Nat.le_refl _)) _).drew, ((b4.drop (by omega)).set_ b5.2 _).drew⟩, b5, ⟨b6, b7, b8, by simpa using b9, by simpa using b10, by simpa using bms⟩, ⟨b11, by omega⟩, b13, b14.part2 b4 (by omega), b15.part2 b4 (by omega)⟩, HV2.out, HR2.out, HG2.out⟩
            · show Box _ _ _
              have hx := (KC2.out.set_ (b' := b) (o := 4) (by omega) (.slice (A5.map fun x => x.add mm) (n5 - mm) (c5 - mm))).drew
              simpa using hx
            · have hx := (b1.put (i := 4) (by simp) (.slice (A5.map fun x => x.add mm) (n5 - mm) (c5 - mm))).drew
              simpa using hx
          case measure =>
            have hx := ((BK2.out.1.put (i := 4) (by simp) (.slice (A5.map fun x => x.add mm) (n5 - mm) (c5 - mm))).drew.2 4 _ rfl).1
            simp only [XW.out, hx, Option.getD_some, lenV]
            omega
      · have hm0 := wrM_no (n := R1.length) hst
        obtain ⟨st, hs⟩ : ∃ st, wrSt p1 k = st := ⟨_, rfl⟩
        have hend := wrSt_end p1 k
        rw [hs] at hst hend
        have HTT : Hid (T = ⟨D1, p1, q0 + (j + 1), R1, st⟩) := by
          show T = _
          have h1 := hg.out
          rw [show R.length - j = (R.length - (j + 1)) + 1 from by omega, fuGo, if_neg hne, hk, if_neg (by rw [hs]; exact hst), hs, Nat.add_assoc] at h1
          exact h1.symm
        unfold WriteAsPost at hcall
        rw [hm0, hs, wrL_none] at hcall
        have HC := Lib.hid hcall
        have HST := Lib.hid hst
        have HEND := Lib.hid hend
        obtain ⟨ae, hae⟩ : ∃ ae, errV a0 a1 a2 st = errAt ae := by
          rcases hend with rfl | rfl | rfl | rfl
          · exact absurd rfl hst
          · exact ⟨a0, rfl⟩
          · exact ⟨a1, rfl⟩
          · exact ⟨a2, rfl⟩
        have HAE := Lib.hid hae
        clear hcall hm0 hs hst hend hg hne hae hl5
        go_wp2_with fail
        go_region_held3 (fun w' => w'.cell? ⟨w.heap.size, 0, none⟩ = some (.pointer (some ⟨b, 0, none⟩)) ∧ w'.cell? ⟨w.heap.size + 1, 0, none⟩ = some (.int .i64 (j : Int)) ∧ w'.cell? ⟨b, 3, none⟩ = some (.int .i64 (q0 : Int)) ∧ w'.cell? ⟨b, 4, none⟩ = some (.slice A5 n5 c5)) (go_keep)
          ((go_at_call 125; refine HC.out.mono ?_; rintro e w1 ⟨A6, n6, c6, rfl, hc6, ht1, hi1, hx1, hor⟩; (try simp only [World.size_alloc, World.size_setCell, World.size_drew] at ht1 hi1 hor); have hs1 := ht1.size; (try simp only [World.size_alloc, World.size_setCell, World.size_drew] at hs1); have X2 := Lib.hid hx1; have HI1 := Lib.hid hi1; have HOR := Lib.hid hor; have HT1 : Hid (Turn wr.heap.size b wr w1) := ht1; clear hx1 hi1 hor ht1; have KB1 := Lib.hid (KB0.out.turn HT1.out (by have := KB0.out.lt; omega) (by omega)); have KC1 := Lib.hid (KC0.out.turn HT1.out (by have := KC0.out.lt; omega) (by omega)); clear x3 x4 k0 c0; have x3 := (X2.out.2 3 _ rfl).1; have x4 := (X2.out.2 4 _ rfl).1; have f4 := (X2.out.2 4 _ rfl).2; have k0 := (KB1.out.2 0 _ rfl).1; have c0 := (KC1.out.2 0 _ rfl).1; have cf0 := (KC1.out.2 0 _ rfl).2))
        have D6 : ∃ M6 C6, (w.heap.size + 2 ≤ M6 ∨ C6 ≤ w.heap.size) ∧ (b < M6 ∨ C6 ≤ b) ∧ lo ≤ M6 ∧ C6 ≤ w1.heap.size ∧ M6 ≤ w1.heap.size ∧ Hid (Ints w1 M6 C6 A6 n6 D1) ∧ Apart A6 n6 A' n' ∧ Apart A5 n5 A6 n6 := by
          have hlt9 := KC0.out.lt
          rcases HOR.out with ⟨rfl, rfl⟩ | h2
          · exact ⟨M1, C1, hM1, hbM, h7, by omega, by omega, HI1.out.narrow hD0.out, hap0.out.1, hap0.out.2.1⟩
          · exact ⟨wr.heap.size, w1.heap.size, .inl (by omega), .inl (by omega), by omega, Nat.le_refl _, by omega, h2, (Apart.of_le hS0.out h2 (by omega)).symm, Apart.of_le hR0.out h2 (by omega)⟩
        obtain ⟨M6, C6, hM6, hbM6, hlo6, hC6, hMs6, HD6, ap6, ap62⟩ := D6
        have HAP6 := Lib.hid (And.intro ap6 ap62)
        clear ap6 ap62 HOR HI1
        have BK1 : Hid (BackAt lo b A6 n6 c6 A' n' c' D1 S z (p1 + ((0 : Nat) : Int)) q0 A5 n5 c5 R1 M6 C6 M2 C2 w1) :=
          ⟨X2.out, ⟨HD6.out, hS0.out.turn HT1.out (by omega) (.inr (Nat.le_refl _)), hR0.out.turn HT1.out (by omega) hbM5⟩, ⟨hbM6, hbM5⟩, ⟨h6, hlo6, h8, hC6, by omega, hMs6⟩, ⟨hc6, h12⟩, HAP6.out.1, HAP6.out.2, hap0.out.2.2⟩
        have BK2 : Hid (BackAt lo b A6 n6 c6 A' n' c' D1 S z (p1 + ((0 : Nat) : Int)) q0 A5 n5 c5 R1 M6 C6 M2 C2 (w1.setCell ⟨w.heap.size + 1, 0, none⟩ (.int .i64 ((j : Int) + 1)))) := BK1.out.set_ (by omega) (by omega) (by omega) _
        have KB2 : Hid (Box (w1.setCell ⟨w.heap.size + 1, 0, none⟩ (.int .i64 ((j : Int) + 1))) w.heap.size [.pointer (some ⟨b, 0, none⟩)]) := KB1.out.set_ (by omega) _
        have KC2 : Hid (Box (w1.setCell ⟨w.heap.size + 1, 0, none⟩ (.int .i64 ((j : Int) + 1))) (w.heap.size + 1) [.int .i64 ((j : Int) + 1)]) := by
          show Box _ _ _
          have hx := KC1.out.put (i := 0) (by simp) (.int .i64 ((j : Int) + 1))
          simpa using hx
        have TR2 : Hid (Turn w.heap.size b w (w1.setCell ⟨w.heap.size + 1, 0, none⟩ (.int .i64 ((j : Int) + 1)))) := by
          show Turn _ _ _ _
          refine (ht.out.trans (HT1.out.mono hsz)).trans ⟨rfl, rfl, rfl, by simp, fun k hk _ => Below.heap_setCell w1 ⟨w.heap.size + 1, 0, none⟩ _ k (by show k ≠ w.heap.size + 1; omega)⟩
        have E2 : Hid (Errs (w1.setCell ⟨w.heap.size + 1, 0, none⟩ (.int .i64 ((j : Int) + 1))) E a0 a1 a2) := HE.out.turn TR2.out (by omega) (by omega)
        have s2 : (w1.setCell ⟨w.heap.size + 1, 0, none⟩ (.int .i64 ((j : Int) + 1))).heap.size = w1.heap.size := by simp
        go_upto_region 6 with (fail)
        generalize w1.setCell ⟨w.heap.size + 1, 0, none⟩ (.int .i64 ((j : Int) + 1)) = w2 at *
        clear x3 x4 f4 k0 c0 cf0 X2 BK1 KB1 KC1
        go_wp2_with fail
        refine (failureOf_any E2.out HEND.out).mono ?_
        rintro e w3 ⟨rfl, rfl⟩
        rw [HAE.out]
        go_wp2
        refine leaves_cons (f := 124) (args := #[.pointer (some ⟨w.heap.size, 0, none⟩), .pointer (some ⟨w.heap.size + 1, 0, none⟩)]) (by simp) (by simp [go_sem]) ?_
        refine (flushDefer_any (m := j + 1) BK2.out.1 KB2.out (by have := KC2.out; simpa using this) (by omega) (by omega)).mono ?_
        rintro e u' w9 ⟨rfl, rfl, rfl⟩
        obtain ⟨e1, e2⟩ := flush_end (j := j + 1) TR2.out BK2.out
        refine ⟨_, results_tmp rfl _ _ _, ?_⟩
        refine ⟨A6, n6, c6, A5, n5, c5, M6, C6, M2, C2, ?_, ?_, ?_⟩
        · rw [HTT.out]
          show Ending.returned (errAt ae) = .returned (errV a0 a1 a2 st)
          rw [HAE.out]
        · simpa using e1
        · rw [HTT.out]
          simpa using e2
end Go.Proofs.YtdiebkaedjlckaaDoor
