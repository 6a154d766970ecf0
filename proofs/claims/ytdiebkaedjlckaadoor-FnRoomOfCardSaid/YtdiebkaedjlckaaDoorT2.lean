/- Bytes are taken: the program's WriteBytes and WriteLines. -/
import Derived.Test.YtdiebkaedjlckaaDoorT1
import Derived.Test.YtdiebkaedjlckaaDoorC3d
namespace Go.Proofs.YtdiebkaedjlckaaDoor
open Go.ChangeShapes Go.WideShapes Go.ChangeAt Go.RowKit
set_option linter.unusedSimpArgs false
set_option linter.unusedVariables false
set_option maxRecDepth 10000

theorem cellAtT {w : World} {lo hi n b o k : Nat} {xs : List Int} {x : Int} (h : Ints w lo hi (some ⟨b, o, none⟩) n xs) (hx : xs[k]? = some x) : w.cell? ⟨b, o + k, none⟩ = some (.int .i64 x) := by
  have hk := (List.getElem?_eq_some_iff.1 hx).1
  obtain ⟨b1, o1, e1, _, _, hc⟩ := h.2.2.2 (by have := h.len; omega)
  injection e1 with e1
  injection e1 with e2 e3 _
  subst e2; subst e3
  exact (hc k x hx).1
def TakeAllPost (lo b LS BS : Nat) (A' : Option Addr) (n' c' : Nat) (S : List Int) (zn : Nat) (a0 a1 a2 : Addr) (F : Fv) (N : Nat) (w : World) (e : Ending) (w' : World) : Prop :=
  Below lo w w' ∧ w.heap.size ≤ w'.heap.size ∧ endSt F.st ∧ ∃ A1 n1 c1 A5 n5 c5 M1 C1 M5 C5, e = .returned (.tuple #[.int .i64 (N : Int), errV a0 a1 a2 F.st]) ∧ BackC lo b LS BS A1 n1 c1 A' n' c' F.d S (zn : Int) F.p F.q A5 n5 c5 F.r M1 C1 M5 C5 w'
set_option maxHeartbeats 8000000 in
theorem takeAll_any {lo b LS BS n c n' c' n2 c2 q0 M C M2 C2 E zn bd nL cL LL BL : Nat} {A A' A2 AL : Option Addr} {D S R L : List Int} {p ee : Int} {a0 a1 a2 : Addr} {w : World} (h : BackC lo b LS BS A n c A' n' c' D S (zn : Int) p q0 A2 n2 c2 R M C M2 C2 w) (hE : Errs w E a0 a1 a2) (hElo : E ≤ lo)
    (hl : Ints w LL BL AL nL L) (hBL : BL ≤ lo) (hok : TkOk S zn bd nL D p q0 R) (hz : 1 ≤ zn ∧ zn ≤ 16) (hb : 12 + zn + nL + 1 ≤ bd) (hb9 : bd ≤ 976) (hL : allB L 0 255 = true) (hnL : nL ≤ 1000) :
    Calls Tryd.prog 92 #[.pointer (some ⟨b, 0, none⟩), .slice AL nL cL, .int .i64 ee] w (TakeAllPost lo b LS BS A' n' c' S zn a0 a1 a2 (tkAll S zn ee L D p q0 R).1 (tkAll S zn ee L D p q0 R).2 w) := by
  obtain ⟨F, hF⟩ : ∃ F, (tkAll S zn ee L D p q0 R).1 = F := ⟨_, rfl⟩
  obtain ⟨N, hN⟩ : ∃ N, (tkAll S zn ee L D p q0 R).2 = N := ⟨_, rfl⟩
  rw [hF, hN]
  have HGO : Hid ((tkAll S zn ee (L.drop 0) D p q0 R).1 = F ∧ (tkAll S zn ee (L.drop 0) D p q0 R).2 + 0 = N) := ⟨hF, hN⟩
  have HOK : Hid (TkOk S zn bd (nL - 0) D p q0 R) := hok
  have HLS := Lib.hid hl
  have HLB := Lib.hid hL
  have HE := Lib.hid hE
  have H0 := Lib.hid h
  have hlob : lo ≤ b := h.1.2.2.2.1.1
  have hlL : nL ≤ L.length ∧ L.length ≤ nL := by have := hl.len; omega
  clear hF hN hok hl hL hE h
  go_enter Tryd.func92, Tryd.ntmps92
  go_wp2
  go_loopw [14] (fun v wr => ∃ (j : Nat) (A1 : Option Addr) (n1 c1 : Nat) (D1 : List Int) (p1 : Int) (q1 : Nat) (A5 : Option Addr) (n5 c5 : Nat) (R1 : List Int) (M1 C1 M5 C5 : Nat), v = .int .i64 (j : Int) ∧ j ≤ nL ∧ w.heap.size ≤ wr.heap.size ∧ Hid (Below lo w wr) ∧ Hid (BackC lo b LS BS A1 n1 c1 A' n' c' D1 S (zn : Int) p1 q1 A5 n5 c5 R1 M1 C1 M5 C5 wr) ∧ Hid (TkOk S zn bd (nL - j) D1 p1 q1 R1) ∧ Hid ((tkAll S zn ee (L.drop j) D1 p1 q1 R1).1 = F ∧ (tkAll S zn ee (L.drop j) D1 p1 q1 R1).2 + j = N)) (fun v _ => nL - (intOf v).toNat)
  case atStart => exact ⟨0, A, n, c, D, p, q0, A2, n2, c2, R, M, C, M2, C2, rfl, Nat.zero_le _, Nat.le_refl _, Lib.hid (Below.refl _ _), H0, HOK, HGO⟩
  case round =>
    clear H0 HOK HGO
    obtain ⟨j, A1, n1, c1, D1, p1, q1, A5, n5, c5, R1, M1, C1, M5, C5, rfl, hj, hsz, hbl, hbc, hok, hgo⟩ := hrel
    by_cases hlt : j < nL
    · obtain ⟨bl, ol, x, rfl, _, _, hx⟩ := HLS.out.at_ hlt
      have hj0 : (0 : Int) ≤ (j : Int) := by omega
      have hj1 : (j : Int) < (nL : Int) := by omega
      have hx01 := allB_iff.1 HLB.out x (List.mem_of_getElem? hx.out)
      have hok2 : TkOk S zn bd ((nL - (j + 1)) + 1) D1 p1 q1 R1 := by have := hok.out; rwa [show nL - j = (nL - (j + 1)) + 1 by omega] at this
      obtain ⟨T, hT⟩ : ∃ T, tkStep S zn D1 p1 q1 R1 = T := ⟨_, rfl⟩
      obtain ⟨k1, k2, k3, k4, k5, k6, k7⟩ := hok2.step hz (by omega) (by omega)
      obtain ⟨ga, gb, gc⟩ := tkAll_at hx.out hT hgo.out
      have htk := take_any (x := x) hbc.out (HE.out.below hbl.out hElo) hElo hok2 hz (by omega) hb9 hx01
      rw [hT] at htk k1 k2 k3 k4 k5 k6 k7
      have GA := Lib.hid ga; have GB := Lib.hid gb; have GC := Lib.hid gc; have K6 := Lib.hid k6
      have HTK := Lib.hid htk
      have HLW := Lib.hid (HLS.out.below hbl.out hBL)
      have kW := (HLW.out.at_ hlt)
      clear hgo hok hok2 ga gb gc k6 k7 htk hT kW
      have hcl : wr.cell? ⟨bl, ol + j, none⟩ = some (.int .i64 x) := cellAtT HLW.out hx.out
      go_wp2_with fail
      refine HTK.out.mono ?_
      rintro e w1 ⟨hb1, hs1, A6, n6, c6, A7, n7, c7, M6, C6, M7, C7, hor⟩
      have HB1 := Lib.hid (hbl.out.trans hb1)
      clear hb1 HTK hcl
      rcases hor with ⟨hfull, hend, hst0, rfl, hbc1⟩ | ⟨hfull, rfl, hbc1⟩
      · obtain ⟨hF, hN⟩ := GA.out hfull
        subst hF; subst hN
        obtain ⟨ae, hae⟩ := errV_at (a0 := a0) (a1 := a1) (a2 := a2) hst0 hend
        have HAE := Lib.hid hae
        have H1 := Lib.hid hbc1
        have HEND := Lib.hid hend
        rw [hae]
        clear hae hbc1 hend
        go_wp2
        go_ret2
        exact ⟨HB1.out, by omega, HEND.out, A6, n6, c6, A7, n7, c7, M6, C6, M7, C7, by rw [HAE.out]; rfl, H1.out⟩
      · have H1 := Lib.hid hbc1
        have HK1 := Lib.hid (K6.out hfull x hx01.1 hx01.2)
        clear hbc1 GA K6
        by_cases hxe : x = ee
        · have hxe2 : (x == ee) = true := by simp [hxe]
          obtain ⟨U, hU⟩ : ∃ U, fuGo S (T.r ++ [x]).length T.d T.p T.q (T.r ++ [x]) = U := ⟨_, rfl⟩
          obtain ⟨gu0, gu1⟩ := GC.out hfull hxe U hU
          obtain ⟨f1, f2, f3, f4, f5, f6⟩ := HK1.out.flush hz (by omega) (by omega)
          obtain ⟨v1, v2, v3, v4, v5⟩ := HK1.out
          have hfl := flush_any3 H1.out.1 H1.out.2.1 (HE.out.below HB1.out hElo) hElo v1 (by omega) (by omega) v2
          have hend : endSt U.st := by rw [← hU]; exact (fuGo_valid _ _ _ _ _ v1 v2 (by omega)).2.2.2.2
          rw [hU] at hfl f1 f2 f3 f4 f5 f6
          have HFL := Lib.hid hfl; have GU0 := Lib.hid gu0; have GU1 := Lib.hid gu1; have F6 := Lib.hid f6; have HEND := Lib.hid hend
          clear hU gu0 gu1 f1 f2 f6 v1 v2 v4 v5 hfl hend GB GC HK1
          go_wp2_with fail
          refine HFL.out.mono ?_
          intro e w2 hpost
          obtain ⟨rfl, hb2, ht2, A8, n8, c8, A9, n9, c9, M8, C8, hbc2⟩ := H1.out.flushed hpost
          have hs2 := hb2.size
          have H2 := Lib.hid hbc2
          have HB2 := Lib.hid (HB1.out.trans hb2)
          clear hpost hbc2 hb2 ht2 HFL H1 HB1
          by_cases hu0 : U.st = 0
          · have HGU := Lib.hid (GU0.out hu0)
            have HKU := Lib.hid (F6.out hu0)
            rw [hu0, show errV a0 a1 a2 0 = .nilIface from rfl]
            clear GU0 GU1 F6 HEND
            go_wp2
            go_roundw
            case rel => exact ⟨j + 1, A8, n8, c8, U.d, U.p, U.q, A9, n9, c9, U.r, M8, C8, M7, C7, by go_num, by omega, by omega, HB2, H2, by rw [show nL - (j + 1) = nL - (j + 1) from rfl]; exact HKU, HGU⟩
            case measure => simp [intOf]; omega
          · obtain ⟨hF, hN⟩ := GU1.out hu0
            subst hF; subst hN
            obtain ⟨ae, hae⟩ := errV_at (a0 := a0) (a1 := a1) (a2 := a2) hu0 HEND.out
            have HAE := Lib.hid hae
            rw [hae]
            clear hae GU0 GU1 F6
            have hwj : IntKind.i64.wrap ((j : Int) + 1) = (j : Int) + 1 := IntWalk.i64_in _ (by omega)
            go_wp2
            go_ret2
            exact ⟨HB2.out, by omega, HEND.out, A8, n8, c8, A9, n9, c9, M8, C8, M7, C7, by rw [HAE.out]; rfl, H2.out⟩
        · have hxe2 : (x == ee) = false := by simp [hxe]
          have HGB := Lib.hid (GB.out hfull hxe)
          clear GB GC
          go_wp2
          go_roundw
          case rel => exact ⟨j + 1, A6, n6, c6, T.d, T.p, T.q, A7, n7, c7, T.r ++ [x], M6, C6, M7, C7, by go_num, by omega, by omega, HB1, H1, HK1, HGB⟩
          case measure => simp [intOf]; omega
    · obtain rfl : j = nL := by omega
      have hgo2 := hgo.out
      rw [List.drop_of_length_le (by omega)] at hgo2
      have hF : F = ⟨D1, p1, q1, R1, 0⟩ := hgo2.1.symm
      have hN : N = j := by have := hgo2.2; simp [tkAll] at this; omega
      clear hlL
      subst hF; subst hN
      clear hgo2 hgo
      have hni : ¬ (N : Int) < (N : Int) := by omega
      go_wp2
      go_ret2
      exact ⟨hbl.out, hsz, .inl rfl, A1, n1, c1, A5, n5, c5, M1, C1, M5, C5, rfl, hbc.out⟩
end Go.Proofs.YtdiebkaedjlckaaDoor
