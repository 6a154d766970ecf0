/- Bytes are taken: the program's WriteBytes and WriteLines. -/
import Derived.Test.YtdiebkaedjlckaaDoorT1
import Derived.Test.YtdiebkaedjlckaaDoorC3d
namespace Go.Proofs.YtdiebkaedjlckaaDoor
section
open Go.ChangeShapes Go.WideShapes Go.ChangeAt Go.RowKit
set_option linter.unusedSimpArgs false
set_option linter.unusedVariables false
set_option maxRecDepth 10000

theorem cellAtT {w : World} {lo hi n b o k : Nat} {xs : List Int} {x : Int} (h : Ints w lo hi (some ⟨b, o, none⟩) n xs) (hx : xs[k]? = some x) : w.cell? ⟨b, o + k, none⟩ = some (.int .i64 x) := by
  have hk := (List.getElem?_eq_some_iff.1 hx).1
  obtain ⟨b1, o1, e1, _, _, hc⟩ := h.2.2.2 (by have := h.len; omega)
  injection e1 with e1
  injection e1 with e2 e3 _
  subst e2; subst e3
  exact (hc k x hx).1
def TakeAllPost (lo b LS BS : Nat) (A' : Option Addr) (n' c' : Nat) (S : List Int) (zn : Nat) (a0 a1 a2 : Addr) (F : Fv) (N : Nat) (w : World) (e : Ending) (w' : World) : Prop :=
  Below lo w w' ∧ w.heap.size ≤ w'.heap.size ∧ endSt F.st ∧ ∃ A1 n1 c1 A5 n5 c5 M1 C1 M5 C5, e = .returned (.tuple #[.int .i64 (N : Int), errV a0 a1 a2 F.st]) ∧ BackC lo b LS BS A1 n1 c1 A' n' c' F.d S (zn : Int) F.p F.q A5 n5 c5 F.r M1 C1 M5 C5 w'
set_option maxHeartbeats 8000000 in
theorem takeAll_any {lo b LS BS n c n' c' n2 c2 q0 M C M2 C2 E zn bd nL cL LL BL : Nat} {A A' A2 AL : Option Addr} {D S R L : List Int} {p ee : Int} {a0 a1 a2 : Addr} {w : World} (h : BackC lo b LS BS A n c A' n' c' D S (zn : Int) p q0 A2 n2 c2 R M C M2 C2 w) (hE : Errs w E a0 a1 a2) (hElo : E ≤ lo)
    (hl : Ints w LL BL AL nL L) (hBL : BL ≤ lo) (hok : TkOk S zn bd nL D p q0 R) (hz : 1 ≤ zn ∧ zn ≤ 16) (hb : 12 + zn + nL + 1 ≤ bd) (hb9 : bd ≤ 976) (hL : allB L 0 255 = true) (hnL : nL ≤ 1000) :
    Calls Tryd.prog 92 #[.pointer (some ⟨b, 0, none⟩), .slice AL nL cL, .int .i64 ee] w (TakeAllPost lo b LS BS A' n' c' S zn a0 a1 a2 (tkAll S zn ee L D p q0 R).1 (tkAll S zn ee L D p q0 R).2 w) := by
  obtain ⟨F, hF⟩ : ∃ F, (tkAll S zn ee L D p q0 R).1 = F := ⟨_, rfl⟩
  obtain ⟨N, hN⟩ : ∃ N, (tkAll S zn ee L D p q0 R).2 = N := ⟨_, rfl⟩
  rw [hF, hN]
  have HGO : Hid ((tkAll S zn ee (L.drop 0) D p q0 R).1 = F ∧ (tkAll S zn ee (L.drop 0) D p q0 R).2 + 0 = N) := ⟨hF, hN⟩
  have HOK : Hid (TkOk S zn bd (nL - 0) D p q0 R) := hok
  have HLS := Lib.hid hl
  have HLB := Lib.hid hL
  have HE := Lib.hid hE
  have H0 := Lib.hid h
  have hlob : lo ≤ b := h.1.2.2.2.1.1
  have hlL : nL ≤ L.length ∧ L.length ≤ nL := by have := hl.len; omega
  clear hF hN hok hl hL hE h
  go_enter Tryd.func92, Tryd.ntmps92
  go_wp2
  go_loopw [14] (fun v wr => ∃ (j : Nat) (A1 : Option Addr) (n1 c1 : Nat) (D1 : List Int) (p1 : Int) (q1 : Nat) (A5 : Option Addr) (n5 c5 : Nat) (R1 : List Int) (M1 C1 M5 C5 : Nat), v = .int .i64 (j : Int) ∧ j ≤ nL ∧ w.heap.size ≤ wr.heap.size ∧ Hid (Below lo w wr) ∧ Hid (BackC lo b LS BS A1 n1 c1 A' n' c' D1 S (zn : Int) p1 q1 A5 n5 c5 R1 M1 C1 M5 C5 wr) ∧ Hid (TkOk S zn bd (nL - j) D1 p1 q1 R1) ∧ Hid ((tkAll S zn ee (L.drop j) D1 p1 q1 R1).1 = F ∧ (tkAll S zn ee (L.drop j) D1 p1 q1 R1).2 + j = N)) (fun v _ => nL - (intOf v).toNat)
  case atStart => exact ⟨0, A, n, c, D, p, q0, A2, n2, c2, R, M, C, M2, C2, rfl, Nat.zero_le _, Nat.le_refl _, Lib.hid (Below.refl _ _), H0, HOK, HGO⟩
  case round =>
    clear H0 HOK HGO
    obtain ⟨j, A1, n1, c1, D1, p1, q1, A5, n5, c5, R1, M1, C1, M5, C5, rfl, hj, hsz, hbl, hbc, hok, hgo⟩ := hrel
    by_cases hlt : j < nL
    · obtain ⟨bl, ol, x, rfl, _, _, hx⟩ := HLS.out.at_ hlt
      have hj0 : (0 : Int) ≤ (j : Int) := by omega
      have hj1 : (j : Int) < (nL : Int) := by omega
      have hx01 := allB_iff.1 HLB.out x (List.mem_of_getElem? hx.out)
      have hok2 : TkOk S zn bd ((nL - (j + 1)) + 1) D1 p1 q1 R1 := by have := hok.out; rwa [show nL - j = (nL - (j + 1)) + 1 by omega] at this
      obtain ⟨T, hT⟩ : ∃ T, tkStep S zn D1 p1 q1 R1 = T := ⟨_, rfl⟩
      obtain ⟨k1, k2, k3, k4, k5, k6, k7⟩ := hok2.step hz (by omega) (by omega)
      obtain ⟨ga, gb, gc⟩ := tkAll_at hx.out hT hgo.out
      have htk := take_any (x := x) hbc.out (HE.out.below hbl.out hElo) hElo hok2 hz (by omega) hb9 hx01
      rw [hT] at htk k1 k2 k3 k4 k5 k6 k7
      have GA := Lib.hid ga; have GB := Lib.hid gb; have GC := Lib.hid gc; have K6 := Lib.hid k6
      have HTK := Lib.hid htk
      have HLW := Lib.hid (HLS.out.below hbl.out hBL)
      have kW := (HLW.out.at_ hlt)
      clear hgo hok hok2 ga gb gc k6 k7 htk hT kW
      have hcl : wr.cell? ⟨bl, ol + j, none⟩ = some (.int .i64 x) := cellAtT HLW.out hx.out
      go_wp2_with fail
      refine HTK.out.mono ?_
      rintro e w1 ⟨hb1, hs1, A6, n6, c6, A7, n7, c7, M6, C6, M7, C7, hor⟩
      have HB1 := Lib.hid (hbl.out.trans hb1)
      clear hb1 HTK hcl
      rcases hor with ⟨hfull, hend, hst0, rfl, hbc1⟩ | ⟨hfull, rfl, hbc1⟩
      · obtain ⟨hF, hN⟩ := GA.out hfull
        subst hF; subst hN
        obtain ⟨ae, hae⟩ := errV_at (a0 := a0) (a1 := a1) (a2 := a2) hst0 hend
        have HAE := Lib.hid hae
        have H1 := Lib.hid hbc1
        have HEND := Lib.hid hend
        rw [hae]
        clear hae hbc1 hend
        go_wp2
        go_ret2
        exact ⟨HB1.out, by omega, HEND.out, A6, n6, c6, A7, n7, c7, M6, C6, M7, C7, by rw [HAE.out]; rfl, H1.out⟩
      · have H1 := Lib.hid hbc1
        have HK1 := Lib.hid (K6.out hfull x hx01.1 hx01.2)
        clear hbc1 GA K6
        by_cases hxe : x = ee
        · have hxe2 : (x == ee) = true := by simp [hxe]
          obtain ⟨U, hU⟩ : ∃ U, fuGo S (T.r ++ [x]).length T.d T.p T.q (T.r ++ [x]) = U := ⟨_, rfl⟩
          obtain ⟨gu0, gu1⟩ := GC.out hfull hxe U hU
          obtain ⟨f1, f2, f3, f4, f5, f6⟩ := HK1.out.flush hz (by omega) (by omega)
          obtain ⟨v1, v2, v3, v4, v5⟩ := HK1.out
          have hfl := flush_any3 H1.out.1 H1.out.2.1 (HE.out.below HB1.out hElo) hElo v1 (by omega) (by omega) v2
          have hend : endSt U.st := by rw [← hU]; exact (fuGo_valid _ _ _ _ _ v1 v2 (by omega)).2.2.2.2
          rw [hU] at hfl f1 f2 f3 f4 f5 f6
          have HFL := Lib.hid hfl; have GU0 := Lib.hid gu0; have GU1 := Lib.hid gu1; have F6 := Lib.hid f6; have HEND := Lib.hid hend
          clear hU gu0 gu1 f1 f2 f6 v1 v2 v4 v5 hfl hend GB GC HK1
          go_wp2_with fail
          refine HFL.out.mono ?_
          intro e w2 hpost
          obtain ⟨rfl, hb2, ht2, A8, n8, c8, A9, n9, c9, M8, C8, hbc2⟩ := H1.out.flushed hpost
          have hs2 := hb2.size
          have H2 := Lib.hid hbc2
          have HB2 := Lib.hid (HB1.out.trans hb2)
          clear hpost hbc2 hb2 ht2 HFL H1 HB1
          by_cases hu0 : U.st = 0
          · have HGU := Lib.hid (GU0.out hu0)
            have HKU := Lib.hid (F6.out hu0)
            rw [hu0, show errV a0 a1 a2 0 = .nilIface from rfl]
            clear GU0 GU1 F6 HEND
            go_wp2
            go_roundw
            case rel => exact ⟨j + 1, A8, n8, c8, U.d, U.p, U.q, A9, n9, c9, U.r, M8, C8, M7, C7, by go_num, by omega, by omega, HB2, H2, by rw [show nL - (j + 1) = nL - (j + 1) from rfl]; exact HKU, HGU⟩
            case measure => simp [intOf]; omega
          · obtain ⟨hF, hN⟩ := GU1.out hu0
            subst hF; subst hN
            obtain ⟨ae, hae⟩ := errV_at (a0 := a0) (a1 := a1) (a2 := a2) hu0 HEND.out
            have HAE := Lib.hid hae
            rw [hae]
            clear hae GU0 GU1 F6
            have hwj : IntKind.i64.wrap ((j : Int) + 1) = (j : Int) + 1 := IntWalk.i64_in _ (by omega)
            go_wp2
            go_ret2
            exact ⟨HB2.out, by omega, HEND.out, A8, n8, c8, A9, n9, c9, M8, C8, M7, C7, by rw [HAE.out]; rfl, H2.out⟩
        · have hxe2 : (x == ee) = false := by simp [hxe]
          have HGB := Lib.hid (GB.out hfull hxe)
          clear GB GC
          go_wp2
          go_roundw
          case rel => exact ⟨j + 1, A6, n6, c6, T.d, T.p, T.q, A7, n7, c7, T.r ++ [x], M6, C6, M7, C7, by go_num, by omega, by omega, HB1, H1, HK1, HGB⟩
          case measure => simp [intOf]; omega
    · obtain rfl : j = nL := by omega
      have hgo2 := hgo.out
      rw [List.drop_of_length_le (by omega)] at hgo2
      have hF : F = ⟨D1, p1, q1, R1, 0⟩ := hgo2.1.symm
      have hN : N = j := by have := hgo2.2; simp [tkAll] at this; omega
      clear hlL
      subst hF; subst hN
      clear hgo2 hgo
      have hni : ¬ (N : Int) < (N : Int) := by omega
      go_wp2
      go_ret2
      exact ⟨hbl.out, hsz, .inl rfl, A1, n1, c1, A5, n5, c5, M1, C1, M5, C5, rfl, hbc.out⟩
end
section
open Go.ChangeShapes Go.WideShapes Go.ChangeAt Go.RowKit
set_option linter.unusedSimpArgs false
set_option linter.unusedVariables false
set_option maxRecDepth 10000

/-- A writer and two ints in new memory. -/
def Post3W (o : Rv × Int × Int) (w : World) (e : Ending) (w' : World) : Prop :=
  ∃ A n c A' n' c' A2 n2 c2, e = .returned (.tuple #[.agg #[.slice (A) n c, .int .i64 (o.1.p), .slice (A') n' c', .int .i64 (o.1.q), .slice (A2) n2 c2, .int .i64 (o.1.z)], .int .i64 o.2.1, .int .i64 o.2.2]) ∧ (n ≤ c ∧ n' ≤ c' ∧ n2 ≤ c2) ∧ Below w.heap.size w w' ∧ RdrIn w' w.heap.size w'.heap.size A n A' n' A2 n2 o.1.d o.1.p o.1.s o.1.q o.1.r o.1.z
theorem Post3W.zero {w w' : World} (hb : Below w.heap.size w w') : Post3W (Rv.zero, 0, 5) w (.returned (.tuple #[.agg #[.slice none 0 0, .int .i64 0, .slice none 0 0, .int .i64 0, .slice none 0 0, .int .i64 0], .int .i64 0, .int .i64 5])) w' :=
  ⟨none, 0, 0, none, 0, 0, none, 0, 0, rfl, ⟨Nat.le_refl _, Nat.le_refl _, Nat.le_refl _⟩, hb, DevIn.zero _ _ _, (Ints.nil _ _ _ 0 _).1, fun h => absurd h (by omega), fun h => absurd h (by omega), by unfold okInt; show _ ≤ (0 : Int) ∧ (0 : Int) ≤ _; omega⟩
/-- What is given where bytes are taken, with a flush behind each that is e. -/
def wbOut (D : List Int) (p : Int) (S : List Int) (q : Int) (R : List Int) (z e : Int) (L : List Int) : Rv × Int × Int :=
  if goodW D p S q R z && bytesB L then (wvOf S z (tkAll S z.toNat e L D p q.toNat R).1, ((tkAll S z.toNat e L D p q.toNat R).2 : Int), (tkAll S z.toNat e L D p q.toNat R).1.st) else (Rv.zero, 0, 5)
/-- What a good writer gives. -/
theorem wb_start {D S R L : List Int} {p q z e : Int} (h : (goodW D p S q R z && bytesB L) = true) : ∃ q0 zn : Nat, q = (q0 : Int) ∧ z = (zn : Int) ∧ q0 ≤ 900 ∧ (1 ≤ zn ∧ zn ≤ 16) ∧ TkOk S zn 976 L.length D p q0 R ∧ L.length ≤ 60 ∧ allB L 0 255 = true ∧ D.length ≤ 60 ∧ S.length ≤ 12 ∧ R.length ≤ 16 ∧ (0 ≤ p ∧ p ≤ 60) ∧
    wbOut D p S q R z e L = (wvOf S (zn : Int) (tkAll S zn e L D p q0 R).1, ((tkAll S zn e L D p q0 R).2 : Int), (tkAll S zn e L D p q0 R).1.st) ∧
    validD (tkAll S zn e L D p q0 R).1.d (tkAll S zn e L D p q0 R).1.p S ((tkAll S zn e L D p q0 R).1.q : Int) = true ∧ (tkAll S zn e L D p q0 R).1.r.length ≤ zn ∧ (tkAll S zn e L D p q0 R).2 ≤ L.length := by
  obtain ⟨hg, hL⟩ := Bool.and_eq_true_iff.1 h
  obtain ⟨k1, k2, k3, k4, k5, k6, k7, k8⟩ := goodW_start hg
  obtain ⟨q0, rfl⟩ := Int.eq_ofNat_of_zero_le k6
  obtain ⟨zn, rfl⟩ := Int.eq_ofNat_of_zero_le (show 0 ≤ z by omega)
  rw [Int.toNat_natCast] at k1 k2
  have hL60 := bytesB_le hL
  have hz : R.length ≤ zn := by have := (validW_iff.1 (goodW_iff.1 hg).1).2.2.1; omega
  have hok : TkOk S zn 976 L.length D p q0 R := ⟨k1, k4, hz, by omega, .inl (by omega)⟩
  obtain ⟨i1, i2, i3, i4, i5, i6⟩ := tkAll_ok (e := e) (b := 976) (z := zn) (by omega) (by omega) L D p q0 R hok (by omega) (bytesB_all hL)
  refine ⟨q0, zn, rfl, rfl, k2, by omega, hok, hL60, bytesB_all hL, k7, k8, k3, (validD_iff.1 k1).2.2.2.1, ?_, i1, i3, i6⟩
  unfold wbOut
  rw [h]
  simp only [if_true, Int.toNat_natCast]
def LenW3 (o : Rv × Int × Int) : Prop := o.1.d.length ≤ 60 ∧ o.1.s.length ≤ 60 ∧ o.1.r.length ≤ 60
theorem wbOut_le (D : List Int) (p : Int) (S : List Int) (q : Int) (R : List Int) (z e : Int) (L : List Int) : LenW3 (wbOut D p S q R z e L) := by
  cases h : goodW D p S q R z && bytesB L
  · unfold wbOut; rw [h]; exact ⟨by show ([] : List Int).length ≤ 60; simp, by show ([] : List Int).length ≤ 60; simp, by show ([] : List Int).length ≤ 60; simp⟩
  · obtain ⟨q0, zn, rfl, rfl, _, hz, _, _, _, _, hS, _, _, ho, hv, hr, _⟩ := wb_start (e := e) h
    rw [ho]
    exact ⟨bytesB_le (validD_iff.1 hv).1, by show S.length ≤ 60; omega, by show (tkAll S zn e L D p q0 R).1.r.length ≤ 60; omega⟩
theorem w3_post {lo b LS BS n1 c1 n' c' n5 c5 M C M2 C2 : Nat} {A1 A' A5 : Option Addr} {S : List Int} {z k y : Int} {T : Fv} {w w' : World} (hE : Below w.heap.size w w') (hlo : w.heap.size ≤ lo) (h : BackAt lo b A1 n1 c1 A' n' c' T.d S z T.p T.q A5 n5 c5 T.r M C M2 C2 w') (hv : validD T.d T.p S (T.q : Int) = true) (hz : 1 ≤ z ∧ z ≤ 16) (hc' : n' ≤ c') :
    Post3W (wvOf S z T, y, k) w (.returned (.tuple #[.agg #[.slice (A1) n1 c1, .int .i64 (T.p), .slice (A') n' c', .int .i64 ((T.q : Int)), .slice (A5) n5 c5, .int .i64 (z)], .int .i64 y, .int .i64 k])) w' := by
  obtain ⟨h1, ⟨h2, h3, h4⟩, _, ⟨h6, h7, h8, h9, h10, _⟩, ⟨h11, h12⟩, h13, h14, h15⟩ := h
  obtain ⟨_, _, _, hp, hq⟩ := validD_iff.1 hv
  have hlt := h1.lt
  exact ⟨A1, n1, c1, A', n', c', A5, n5, c5, rfl, ⟨h11, hc', h12⟩, hE, ⟨h2.more (by omega) h9, h3.more hlo (by omega), h13, by unfold okInt; show _ ≤ T.p ∧ T.p ≤ _; omega, by unfold okInt; show _ ≤ (T.q : Int) ∧ (T.q : Int) ≤ _; omega⟩, h4.more (by omega) h10, h14, h15, by unfold okInt; show _ ≤ z ∧ z ≤ _; omega⟩
set_option maxHeartbeats 8000000 in
theorem writeUpTo_any {A A' A2 AL : Option Addr} {n c n' c' n2 c2 nL cL : Nat} {D S R L : List Int} {p q z ee : Int} {w : World} {L0 L' B B' M C LL BL : Nat} {E : Nat} {a0 a1 a2 : Addr} (hE : Errs w E a0 a1 a2) (hEw : E ≤ w.heap.size) (h : Ints w L0 B A n D) (h' : Ints w L' B' A' n' S) (g : Ints w M C A2 n2 R) (hl : Ints w LL BL AL nL L) (hB : B ≤ w.heap.size) (hB' : B' ≤ w.heap.size) (hC : C ≤ w.heap.size) (hBL : BL ≤ w.heap.size) (hc : n ≤ c) (hc1 : n' ≤ c') (hc2 : n2 ≤ c2) (hcL : nL ≤ cL) (_hn : n ≤ 1048576) (_hn1 : n' ≤ 1048576) (_hn2 : n2 ≤ 1048576) (_hnL : nL ≤ 1048576) :
    Calls Tryd.prog 54 #[.agg #[.slice (A) n c, .int .i64 (p), .slice (A') n' c', .int .i64 (q), .slice (A2) n2 c2, .int .i64 (z)], .slice AL nL cL, .int .i64 ee] w (Post3W (wbOut D p S q R z ee L) w) := by
  have HG := Lib.hid g.len
  have HL := Lib.hid h.len
  have HL' := Lib.hid h'.len
  have HLL := Lib.hid hl.len
  have HE0 := Lib.hid hE
  have H1 : Hid (Ints ((w.alloc (.cells #[.slice (A) n c, .int .i64 (p), .slice (A') n' c', .int .i64 (q), .slice (A2) n2 c2, .int .i64 (z)] 30)).alloc (.cells #[.slice none 0 0, .int .i64 0, .slice none 0 0, .int .i64 0, .slice none 0 0, .int .i64 0] 30)) L0 B A n D) := (h.alloc hB _).alloc (by first | omega | (simp; omega) | (simp; done)) _
  have H2 : Hid (Ints ((w.alloc (.cells #[.slice (A) n c, .int .i64 (p), .slice (A') n' c', .int .i64 (q), .slice (A2) n2 c2, .int .i64 (z)] 30)).alloc (.cells #[.slice none 0 0, .int .i64 0, .slice none 0 0, .int .i64 0, .slice none 0 0, .int .i64 0] 30)) L' B' A' n' S) := (h'.alloc hB' _).alloc (by first | omega | (simp; omega) | (simp; done)) _
  have G1 : Hid (Ints ((w.alloc (.cells #[.slice (A) n c, .int .i64 (p), .slice (A') n' c', .int .i64 (q), .slice (A2) n2 c2, .int .i64 (z)] 30)).alloc (.cells #[.slice none 0 0, .int .i64 0, .slice none 0 0, .int .i64 0, .slice none 0 0, .int .i64 0] 30)) M C A2 n2 R) := (g.alloc hC _).alloc (by first | omega | (simp; omega) | (simp; done)) _
  have T1 : Hid (Ints ((w.alloc (.cells #[.slice (A) n c, .int .i64 (p), .slice (A') n' c', .int .i64 (q), .slice (A2) n2 c2, .int .i64 (z)] 30)).alloc (.cells #[.slice none 0 0, .int .i64 0, .slice none 0 0, .int .i64 0, .slice none 0 0, .int .i64 0] 30)) LL BL AL nL L) := (hl.alloc hBL _).alloc (by first | omega | (simp; omega) | (simp; done)) _
  have X0 : Hid (Box ((w.alloc (.cells #[.slice (A) n c, .int .i64 (p), .slice (A') n' c', .int .i64 (q), .slice (A2) n2 c2, .int .i64 (z)] 30)).alloc (.cells #[.slice none 0 0, .int .i64 0, .slice none 0 0, .int .i64 0, .slice none 0 0, .int .i64 0] 30)) w.heap.size [.slice (A) n c, .int .i64 (p), .slice (A') n' c', .int .i64 (q), .slice (A2) n2 c2, .int .i64 (z)]) := (Box.new w 30 [.slice (A) n c, .int .i64 (p), .slice (A') n' c', .int .i64 (q), .slice (A2) n2 c2, .int .i64 (z)]).alloc _
  have R0 : Hid (Box ((w.alloc (.cells #[.slice (A) n c, .int .i64 (p), .slice (A') n' c', .int .i64 (q), .slice (A2) n2 c2, .int .i64 (z)] 30)).alloc (.cells #[.slice none 0 0, .int .i64 0, .slice none 0 0, .int .i64 0, .slice none 0 0, .int .i64 0] 30)) (w.heap.size + 1) [.slice none 0 0, .int .i64 0, .slice none 0 0, .int .i64 0, .slice none 0 0, .int .i64 0]) := by
    have hx := Box.new (w.alloc (.cells #[.slice (A) n c, .int .i64 (p), .slice (A') n' c', .int .i64 (q), .slice (A2) n2 c2, .int .i64 (z)] 30)) 30 [.slice none 0 0, .int .i64 0, .slice none 0 0, .int .i64 0, .slice none 0 0, .int .i64 0]
    rw [World.size_alloc] at hx
    exact hx
  have E0 : Hid (Below w.heap.size w ((w.alloc (.cells #[.slice (A) n c, .int .i64 (p), .slice (A') n' c', .int .i64 (q), .slice (A2) n2 c2, .int .i64 (z)] 30)).alloc (.cells #[.slice none 0 0, .int .i64 0, .slice none 0 0, .int .i64 0, .slice none 0 0, .int .i64 0] 30))) := (by go_grown : Below w.heap.size w _)
  have s0 : (((w.alloc (.cells #[.slice (A) n c, .int .i64 (p), .slice (A') n' c', .int .i64 (q), .slice (A2) n2 c2, .int .i64 (z)] 30)).alloc (.cells #[.slice none 0 0, .int .i64 0, .slice none 0 0, .int .i64 0, .slice none 0 0, .int .i64 0] 30))).heap.size = w.heap.size + 2 := by simp
  clear h h' g hE hl
  have x0 := (X0.out.2 0 _ rfl).1; have x1 := (X0.out.2 1 _ rfl).1; have x2 := (X0.out.2 2 _ rfl).1; have x3 := (X0.out.2 3 _ rfl).1; have x4 := (X0.out.2 4 _ rfl).1; have x5 := (X0.out.2 5 _ rfl).1
  go_enter Tryd.func54, Tryd.ntmps54
  go_wp2_with fail
  generalize ((w.alloc (.cells #[.slice (A) n c, .int .i64 (p), .slice (A') n' c', .int .i64 (q), .slice (A2) n2 c2, .int .i64 (z)] 30)).alloc (.cells #[.slice none 0 0, .int .i64 0, .slice none 0 0, .int .i64 0, .slice none 0 0, .int .i64 0] 30)) = w0 at *
  clear x0 x1 x2 x3 x4 x5
  refine (canWrite_any H1.out H2.out G1.out (by omega) (by omega) (by omega) hc).mono ?_
  rintro e w1 ⟨rfl, hb1⟩
  have s1 := hb1.size
  have E1 := Lib.hid (below_step hb1 E0.out (by omega))
  have X1 := Lib.hid (X0.out.below hb1 (by omega))
  have R1 := Lib.hid (R0.out.below hb1 (by omega))
  have I1 := Lib.hid (H1.out.below hb1 (by omega))
  have I2 := Lib.hid (H2.out.below hb1 (by omega))
  have G2 := Lib.hid (G1.out.below hb1 (by omega))
  have T2 := Lib.hid (T1.out.below hb1 (by omega))
  clear hb1 H1 H2 G1 X0 R0 E0 T1
  cases hg : goodW D p S q R z
  · have HO : Hid (wbOut D p S q R z ee L = (Rv.zero, 0, 5)) := by show _ = _; simp [wbOut, hg]
    clear hg
    have r0 := (R1.out.2 0 _ rfl).1; have r1 := (R1.out.2 1 _ rfl).1; have r2 := (R1.out.2 2 _ rfl).1; have r3 := (R1.out.2 3 _ rfl).1; have r4 := (R1.out.2 4 _ rfl).1; have r5 := (R1.out.2 5 _ rfl).1
    have g0 := (R1.out.2 0 _ rfl).2; have g1 := (R1.out.2 1 _ rfl).2; have g2 := (R1.out.2 2 _ rfl).2; have g3 := (R1.out.2 3 _ rfl).2; have g4 := (R1.out.2 4 _ rfl).2; have g5 := (R1.out.2 5 _ rfl).2
    go_wp2
    refine bodyPost_ret (v := .tuple #[.agg #[.slice none 0 0, .int .i64 0, .slice none 0 0, .int .i64 0, .slice none 0 0, .int .i64 0], .int .i64 0, .int .i64 5]) (by simp [results, Tryd.results54, go_sem, r0, r1, r2, r3, r4, r5, g0, g1, g2, g3, g4, g5]) rfl ?_
    rw [HO.out]
    refine Post3W.zero ?_
    (repeat (with_reducible refine below_set ?_ (by omega) _))
    exact E1.out
  · have HG0 := Lib.hid hg
    clear hg
    go_wp2_with fail
    refine (areBytes_any T2.out).mono ?_
    rintro e w9 ⟨rfl, rfl⟩
    cases hbL : bytesB L
    · have HO : Hid (wbOut D p S q R z ee L = (Rv.zero, 0, 5)) := by show _ = _; simp [wbOut, HG0.out, hbL]
      clear hbL
      have r0 := (R1.out.2 0 _ rfl).1; have r1 := (R1.out.2 1 _ rfl).1; have r2 := (R1.out.2 2 _ rfl).1; have r3 := (R1.out.2 3 _ rfl).1; have r4 := (R1.out.2 4 _ rfl).1; have r5 := (R1.out.2 5 _ rfl).1
      have g0 := (R1.out.2 0 _ rfl).2; have g1 := (R1.out.2 1 _ rfl).2; have g2 := (R1.out.2 2 _ rfl).2; have g3 := (R1.out.2 3 _ rfl).2; have g4 := (R1.out.2 4 _ rfl).2; have g5 := (R1.out.2 5 _ rfl).2
      go_wp2
      refine bodyPost_ret (v := .tuple #[.agg #[.slice none 0 0, .int .i64 0, .slice none 0 0, .int .i64 0, .slice none 0 0, .int .i64 0], .int .i64 0, .int .i64 5]) (by simp [results, Tryd.results54, go_sem, r0, r1, r2, r3, r4, r5, g0, g1, g2, g3, g4, g5]) rfl ?_
      rw [HO.out]
      refine Post3W.zero ?_
      (repeat (with_reducible refine below_set ?_ (by omega) _))
      exact E1.out
    · obtain ⟨q0, zn, hq0, hzn, hq9, hz, hok, hL60, hLb, hD60, hS12, hR16, hp, ho, hv, hr, hN⟩ := wb_start (e := ee) (show (goodW D p S q R z && bytesB L) = true by rw [HG0.out, hbL]; rfl)
      subst hq0; subst hzn
      have HO := Lib.hid ho; have HOK := Lib.hid hok; have HLB := Lib.hid hLb; have HV := Lib.hid hv
      have hn60 : n ≤ 60 := by rw [HL.out]; exact hD60
      have hn12 : n' ≤ 12 := by rw [HL'.out]; exact hS12
      have hn16 : n2 ≤ 16 := by rw [HG.out]; exact hR16
      have hnL60 : nL ≤ 60 := by rw [HLL.out]; exact hL60
      clear ho hok hLb hv hbL HG0 hr hN hD60 hS12 hR16
      have x0 := (X1.out.2 0 _ rfl).1; have x1 := (X1.out.2 1 _ rfl).1; have x2 := (X1.out.2 2 _ rfl).1; have x3 := (X1.out.2 3 _ rfl).1; have x4 := (X1.out.2 4 _ rfl).1; have x5 := (X1.out.2 5 _ rfl).1
      go_wp2_with fail
      clear x0 x1 x2 x3 x4 x5
      refine (backlogOf_c I1.out I2.out G2.out (by omega) (by omega) (by omega) (by omega) (by omega) (by omega) (by unfold okInt; omega) (by unfold okInt; omega)).mono ?_
      rintro e w2 ⟨b, m, A3, n3, c3, A3', n3', c3', A4, n4, rfl, ⟨hc3, hc3'⟩, hb2, hwm, hmb, hx, h1, h2, h3, ha⟩
      have hbw := hx.lt
      have s2 := hb2.size
      have BK := Lib.hid (show BackC w1.heap.size b w1.heap.size m A3 n3 c3 A3' n3' c3' D S (zn : Int) p q0 A4 n4 n4 R w1.heap.size m m b w2 from ⟨⟨hx, ⟨h1, h2.more (by omega) (by omega), h3.ints⟩, ⟨.inr (by omega), .inr (Nat.le_refl _)⟩, ⟨by omega, Nat.le_refl _, by omega, by omega, by omega, s2⟩, ⟨hc3, Nat.le_refl _⟩, ⟨ha, (Apart.of_le h1 h3.ints (Nat.le_refl _)).symm, (Apart.of_le h2 h3.ints (Nat.le_refl _)).symm⟩⟩, h3, h2, .inl (Nat.le_refl _), Nat.le_refl _, Nat.le_refl _, hmb, by omega⟩)
      have R2 := Lib.hid (R1.out.below hb2 (by omega))
      have E2 := Lib.hid (below_step hb2 E1.out (by omega))
      have HE2 := Lib.hid (HE0.out.below E2.out hEw)
      have T3 := Lib.hid (T2.out.below hb2 (by omega))
      clear hb2 hx h1 h2 h3 ha R1 E1 I1 I2 G2 X1 T2
      have htk := takeAll_any (ee := ee) (cL := cL) BK.out HE2.out (by omega) T3.out (by omega) (by have := HOK.out; rwa [← HLL.out] at this) hz (by omega) (by omega) HLB.out (by omega)
      obtain ⟨F, hF⟩ : ∃ F, (tkAll S zn ee L D p q0 R).1 = F := ⟨_, rfl⟩
      obtain ⟨N, hN⟩ : ∃ N, (tkAll S zn ee L D p q0 R).2 = N := ⟨_, rfl⟩
      rw [hF, hN] at htk
      rw [hF, hN] at HO
      rw [hF] at HV
      have HTK := Lib.hid htk
      clear htk hF hN
      go_wp2_with fail
      refine HTK.out.mono ?_
      rintro e w3 ⟨hb3, s3, hend, A5, n5, c5, A6, n6, c6, M5, C5, M6, C6, rfl, hbk⟩
      have BK3 := Lib.hid hbk.1
      have HEND := Lib.hid hend
      have R3 := Lib.hid (R2.out.below hb3 (by omega))
      have E3 : Hid (Below w.heap.size w w3) := below_step hb3 E2.out (by omega)
      have HE3 := Lib.hid (HE0.out.below E3.out hEw)
      clear hb3 hbk hend R2 E2 BK HTK HE2 T3
      go_wp2_with fail
      refine (writer_any BK3.out.1).mono ?_
      rintro e w8 ⟨rfl, hb8⟩
      have s8 := hb8.size
      have BK8 := Lib.hid (BK3.out.below hb8 (Nat.le_refl _))
      have R8 := Lib.hid (R3.out.below hb8 (by omega))
      have E8 := Lib.hid (below_step hb8 E3.out (by omega))
      have HE8 := Lib.hid (HE0.out.below E8.out hEw)
      clear hb8 BK3 R3 E3
      go_wp2_with fail
      refine (endOf_any HE8.out HEND.out).mono ?_
      rintro e w10 ⟨rfl, rfl⟩
      have r0 := (R8.out.2 0 _ rfl).1; have r1 := (R8.out.2 1 _ rfl).1; have r2 := (R8.out.2 2 _ rfl).1; have r3 := (R8.out.2 3 _ rfl).1; have r4 := (R8.out.2 4 _ rfl).1; have r5 := (R8.out.2 5 _ rfl).1
      have g0 := (R8.out.2 0 _ rfl).2; have g1 := (R8.out.2 1 _ rfl).2; have g2 := (R8.out.2 2 _ rfl).2; have g3 := (R8.out.2 3 _ rfl).2; have g4 := (R8.out.2 4 _ rfl).2; have g5 := (R8.out.2 5 _ rfl).2
      go_wp2
      refine bodyPost_ret (v := .tuple #[.agg #[.slice (A5) n5 c5, .int .i64 (F.p), .slice (A3') n3' c3', .int .i64 ((F.q : Int)), .slice (A6) n6 c6, .int .i64 ((zn : Int))], .int .i64 (N : Int), .int .i64 F.st]) (by simp [results, Tryd.results54, go_sem, r0, r1, r2, r3, r4, r5, g0, g1, g2, g3, g4, g5]) rfl ?_
      rw [HO.out]
      refine w3_post (LS := 0) (BS := 0) (by (repeat (with_reducible refine below_set ?_ (by omega) _)); exact E8.out) (by omega) (BK8.out.sets (by omega)) HV.out (by omega) hc3'
set_option maxHeartbeats 2000000 in
theorem WriteBytes_x {A A' A2 AL : Option Addr} {n c n' c' n2 c2 nL cL : Nat} {D S R L : List Int} {p q z : Int} {w : World} {L0 L' B B' M C LL BL : Nat} {E : Nat} {a0 a1 a2 : Addr} (hE : Errs w E a0 a1 a2) (hEw : E ≤ w.heap.size) (h : Ints w L0 B A n D) (h' : Ints w L' B' A' n' S) (g : Ints w M C A2 n2 R) (hl : Ints w LL BL AL nL L) (hB : B ≤ w.heap.size) (hB' : B' ≤ w.heap.size) (hC : C ≤ w.heap.size) (hBL : BL ≤ w.heap.size) (hc : n ≤ c) (hc1 : n' ≤ c') (hc2 : n2 ≤ c2) (hcL : nL ≤ cL) (_hn : n ≤ 1048576) (_hn1 : n' ≤ 1048576) (_hn2 : n2 ≤ 1048576) (_hnL : nL ≤ 1048576) :
    Calls Tryd.prog 16 #[.agg #[.slice (A) n c, .int .i64 (p), .slice (A') n' c', .int .i64 (q), .slice (A2) n2 c2, .int .i64 (z)], .slice AL nL cL] w (Post3W (wbOut D p S q R z (-1) L) w) := by
  have H1 : Hid (Ints ((w.alloc (.cells #[.slice (A) n c, .int .i64 (p), .slice (A') n' c', .int .i64 (q), .slice (A2) n2 c2, .int .i64 (z)] 30)).alloc (.cells #[.slice none 0 0, .int .i64 0, .slice none 0 0, .int .i64 0, .slice none 0 0, .int .i64 0] 30)) L0 B A n D) := (h.alloc hB _).alloc (by first | omega | (simp; omega) | (simp; done)) _
  have H2 : Hid (Ints ((w.alloc (.cells #[.slice (A) n c, .int .i64 (p), .slice (A') n' c', .int .i64 (q), .slice (A2) n2 c2, .int .i64 (z)] 30)).alloc (.cells #[.slice none 0 0, .int .i64 0, .slice none 0 0, .int .i64 0, .slice none 0 0, .int .i64 0] 30)) L' B' A' n' S) := (h'.alloc hB' _).alloc (by first | omega | (simp; omega) | (simp; done)) _
  have G1 : Hid (Ints ((w.alloc (.cells #[.slice (A) n c, .int .i64 (p), .slice (A') n' c', .int .i64 (q), .slice (A2) n2 c2, .int .i64 (z)] 30)).alloc (.cells #[.slice none 0 0, .int .i64 0, .slice none 0 0, .int .i64 0, .slice none 0 0, .int .i64 0] 30)) M C A2 n2 R) := (g.alloc hC _).alloc (by first | omega | (simp; omega) | (simp; done)) _
  have T1 : Hid (Ints ((w.alloc (.cells #[.slice (A) n c, .int .i64 (p), .slice (A') n' c', .int .i64 (q), .slice (A2) n2 c2, .int .i64 (z)] 30)).alloc (.cells #[.slice none 0 0, .int .i64 0, .slice none 0 0, .int .i64 0, .slice none 0 0, .int .i64 0] 30)) LL BL AL nL L) := (hl.alloc hBL _).alloc (by first | omega | (simp; omega) | (simp; done)) _
  have X0 : Hid (Box ((w.alloc (.cells #[.slice (A) n c, .int .i64 (p), .slice (A') n' c', .int .i64 (q), .slice (A2) n2 c2, .int .i64 (z)] 30)).alloc (.cells #[.slice none 0 0, .int .i64 0, .slice none 0 0, .int .i64 0, .slice none 0 0, .int .i64 0] 30)) w.heap.size [.slice (A) n c, .int .i64 (p), .slice (A') n' c', .int .i64 (q), .slice (A2) n2 c2, .int .i64 (z)]) := (Box.new w 30 [.slice (A) n c, .int .i64 (p), .slice (A') n' c', .int .i64 (q), .slice (A2) n2 c2, .int .i64 (z)]).alloc _
  have R0 : Hid (Box ((w.alloc (.cells #[.slice (A) n c, .int .i64 (p), .slice (A') n' c', .int .i64 (q), .slice (A2) n2 c2, .int .i64 (z)] 30)).alloc (.cells #[.slice none 0 0, .int .i64 0, .slice none 0 0, .int .i64 0, .slice none 0 0, .int .i64 0] 30)) (w.heap.size + 1) [.slice none 0 0, .int .i64 0, .slice none 0 0, .int .i64 0, .slice none 0 0, .int .i64 0]) := by
    have hx := Box.new (w.alloc (.cells #[.slice (A) n c, .int .i64 (p), .slice (A') n' c', .int .i64 (q), .slice (A2) n2 c2, .int .i64 (z)] 30)) 30 [.slice none 0 0, .int .i64 0, .slice none 0 0, .int .i64 0, .slice none 0 0, .int .i64 0]
    rw [World.size_alloc] at hx
    exact hx
  have E0 : Hid (Below w.heap.size w ((w.alloc (.cells #[.slice (A) n c, .int .i64 (p), .slice (A') n' c', .int .i64 (q), .slice (A2) n2 c2, .int .i64 (z)] 30)).alloc (.cells #[.slice none 0 0, .int .i64 0, .slice none 0 0, .int .i64 0, .slice none 0 0, .int .i64 0] 30))) := (by go_grown : Below w.heap.size w _)
  have s0 : (((w.alloc (.cells #[.slice (A) n c, .int .i64 (p), .slice (A') n' c', .int .i64 (q), .slice (A2) n2 c2, .int .i64 (z)] 30)).alloc (.cells #[.slice none 0 0, .int .i64 0, .slice none 0 0, .int .i64 0, .slice none 0 0, .int .i64 0] 30))).heap.size = w.heap.size + 2 := by simp
  have HE0 : Hid (Errs ((w.alloc (.cells #[.slice (A) n c, .int .i64 (p), .slice (A') n' c', .int .i64 (q), .slice (A2) n2 c2, .int .i64 (z)] 30)).alloc (.cells #[.slice none 0 0, .int .i64 0, .slice none 0 0, .int .i64 0, .slice none 0 0, .int .i64 0] 30)) E a0 a1 a2) := hE.below E0.out hEw
  clear h h' g hE hl
  have x0 := (X0.out.2 0 _ rfl).1; have x1 := (X0.out.2 1 _ rfl).1; have x2 := (X0.out.2 2 _ rfl).1; have x3 := (X0.out.2 3 _ rfl).1; have x4 := (X0.out.2 4 _ rfl).1; have x5 := (X0.out.2 5 _ rfl).1
  go_enter Tryd.func16, Tryd.ntmps16
  go_wp2_with fail
  generalize ((w.alloc (.cells #[.slice (A) n c, .int .i64 (p), .slice (A') n' c', .int .i64 (q), .slice (A2) n2 c2, .int .i64 (z)] 30)).alloc (.cells #[.slice none 0 0, .int .i64 0, .slice none 0 0, .int .i64 0, .slice none 0 0, .int .i64 0] 30)) = w0 at *
  clear x0 x1 x2 x3 x4 x5
  refine (writeUpTo_any HE0.out (by omega) H1.out H2.out G1.out T1.out (by omega) (by omega) (by omega) (by omega) hc hc1 hc2 hcL _hn _hn1 _hn2 _hnL).mono ?_
  obtain ⟨O, hO⟩ : ∃ O, wbOut D p S q R z (-1) L = O := ⟨_, rfl⟩
  rw [hO]
  have HO := Lib.hid hO
  clear hO
  rintro e w1 ⟨A5, n5, c5, A5', n5', c5', A6, n6, c6, rfl, hcs, hb1, ⟨⟨hd, hd', ha, hp, hq⟩, hr, ha1, ha2, hz⟩⟩
  have R1 := Lib.hid (R0.out.below hb1 (by omega))
  have E1 := Lib.hid (below_step hb1 E0.out (by omega))
  have s1 := hb1.size
  have D1 := Lib.hid hd; have D2 := Lib.hid hd'; have D3 := Lib.hid hr
  have AP := Lib.hid (And.intro ha (And.intro ha1 ha2))
  clear hb1 R0 E0 hd hd' hr ha ha1 ha2
  have r0 := (R1.out.2 0 _ rfl).1; have r1 := (R1.out.2 1 _ rfl).1; have r2 := (R1.out.2 2 _ rfl).1; have r3 := (R1.out.2 3 _ rfl).1; have r4 := (R1.out.2 4 _ rfl).1; have r5 := (R1.out.2 5 _ rfl).1
  have g0 := (R1.out.2 0 _ rfl).2; have g1 := (R1.out.2 1 _ rfl).2; have g2 := (R1.out.2 2 _ rfl).2; have g3 := (R1.out.2 3 _ rfl).2; have g4 := (R1.out.2 4 _ rfl).2; have g5 := (R1.out.2 5 _ rfl).2
  go_wp2
  refine bodyPost_ret (v := .tuple #[.agg #[.slice (A5) n5 c5, .int .i64 (O.1.p), .slice (A5') n5' c5', .int .i64 (O.1.q), .slice (A6) n6 c6, .int .i64 (O.1.z)], .int .i64 O.2.1, .int .i64 O.2.2]) (by simp [results, Tryd.results16, go_sem, r0, r1, r2, r3, r4, r5, g0, g1, g2, g3, g4, g5]) rfl ?_
  rw [HO.out]
  refine ⟨A5, n5, c5, A5', n5', c5', A6, n6, c6, rfl, hcs, ?_, ⟨⟨?_, ?_, AP.out.1, hp, hq⟩, ?_, AP.out.2.1, AP.out.2.2, hz⟩⟩
  · (repeat (with_reducible refine below_set ?_ (by omega) _))
    exact E1.out
  · simp only [World.size_setCell]
    refine Ints.more (lo := w0.heap.size) (hi := w1.heap.size) ?_ (by omega) (Nat.le_refl _)
    (repeat (with_reducible refine Ints.set_ ?_ (by omega) _))
    exact D1.out
  · simp only [World.size_setCell]
    refine Ints.more (lo := w0.heap.size) (hi := w1.heap.size) ?_ (by omega) (Nat.le_refl _)
    (repeat (with_reducible refine Ints.set_ ?_ (by omega) _))
    exact D2.out
  · simp only [World.size_setCell]
    refine Ints.more (lo := w0.heap.size) (hi := w1.heap.size) ?_ (by omega) (Nat.le_refl _)
    (repeat (with_reducible refine Ints.set_ ?_ (by omega) _))
    exact D3.out
set_option maxHeartbeats 2000000 in
theorem WriteLines_x {A A' A2 AL : Option Addr} {n c n' c' n2 c2 nL cL : Nat} {D S R L : List Int} {p q z : Int} {w : World} {L0 L' B B' M C LL BL : Nat} {E : Nat} {a0 a1 a2 : Addr} (hE : Errs w E a0 a1 a2) (hEw : E ≤ w.heap.size) (h : Ints w L0 B A n D) (h' : Ints w L' B' A' n' S) (g : Ints w M C A2 n2 R) (hl : Ints w LL BL AL nL L) (hB : B ≤ w.heap.size) (hB' : B' ≤ w.heap.size) (hC : C ≤ w.heap.size) (hBL : BL ≤ w.heap.size) (hc : n ≤ c) (hc1 : n' ≤ c') (hc2 : n2 ≤ c2) (hcL : nL ≤ cL) (_hn : n ≤ 1048576) (_hn1 : n' ≤ 1048576) (_hn2 : n2 ≤ 1048576) (_hnL : nL ≤ 1048576) :
    Calls Tryd.prog 23 #[.agg #[.slice (A) n c, .int .i64 (p), .slice (A') n' c', .int .i64 (q), .slice (A2) n2 c2, .int .i64 (z)], .slice AL nL cL] w (Post3W (wbOut D p S q R z 10 L) w) := by
  have H1 : Hid (Ints ((w.alloc (.cells #[.slice (A) n c, .int .i64 (p), .slice (A') n' c', .int .i64 (q), .slice (A2) n2 c2, .int .i64 (z)] 30)).alloc (.cells #[.slice none 0 0, .int .i64 0, .slice none 0 0, .int .i64 0, .slice none 0 0, .int .i64 0] 30)) L0 B A n D) := (h.alloc hB _).alloc (by first | omega | (simp; omega) | (simp; done)) _
  have H2 : Hid (Ints ((w.alloc (.cells #[.slice (A) n c, .int .i64 (p), .slice (A') n' c', .int .i64 (q), .slice (A2) n2 c2, .int .i64 (z)] 30)).alloc (.cells #[.slice none 0 0, .int .i64 0, .slice none 0 0, .int .i64 0, .slice none 0 0, .int .i64 0] 30)) L' B' A' n' S) := (h'.alloc hB' _).alloc (by first | omega | (simp; omega) | (simp; done)) _
  have G1 : Hid (Ints ((w.alloc (.cells #[.slice (A) n c, .int .i64 (p), .slice (A') n' c', .int .i64 (q), .slice (A2) n2 c2, .int .i64 (z)] 30)).alloc (.cells #[.slice none 0 0, .int .i64 0, .slice none 0 0, .int .i64 0, .slice none 0 0, .int .i64 0] 30)) M C A2 n2 R) := (g.alloc hC _).alloc (by first | omega | (simp; omega) | (simp; done)) _
  have T1 : Hid (Ints ((w.alloc (.cells #[.slice (A) n c, .int .i64 (p), .slice (A') n' c', .int .i64 (q), .slice (A2) n2 c2, .int .i64 (z)] 30)).alloc (.cells #[.slice none 0 0, .int .i64 0, .slice none 0 0, .int .i64 0, .slice none 0 0, .int .i64 0] 30)) LL BL AL nL L) := (hl.alloc hBL _).alloc (by first | omega | (simp; omega) | (simp; done)) _
  have X0 : Hid (Box ((w.alloc (.cells #[.slice (A) n c, .int .i64 (p), .slice (A') n' c', .int .i64 (q), .slice (A2) n2 c2, .int .i64 (z)] 30)).alloc (.cells #[.slice none 0 0, .int .i64 0, .slice none 0 0, .int .i64 0, .slice none 0 0, .int .i64 0] 30)) w.heap.size [.slice (A) n c, .int .i64 (p), .slice (A') n' c', .int .i64 (q), .slice (A2) n2 c2, .int .i64 (z)]) := (Box.new w 30 [.slice (A) n c, .int .i64 (p), .slice (A') n' c', .int .i64 (q), .slice (A2) n2 c2, .int .i64 (z)]).alloc _
  have R0 : Hid (Box ((w.alloc (.cells #[.slice (A) n c, .int .i64 (p), .slice (A') n' c', .int .i64 (q), .slice (A2) n2 c2, .int .i64 (z)] 30)).alloc (.cells #[.slice none 0 0, .int .i64 0, .slice none 0 0, .int .i64 0, .slice none 0 0, .int .i64 0] 30)) (w.heap.size + 1) [.slice none 0 0, .int .i64 0, .slice none 0 0, .int .i64 0, .slice none 0 0, .int .i64 0]) := by
    have hx := Box.new (w.alloc (.cells #[.slice (A) n c, .int .i64 (p), .slice (A') n' c', .int .i64 (q), .slice (A2) n2 c2, .int .i64 (z)] 30)) 30 [.slice none 0 0, .int .i64 0, .slice none 0 0, .int .i64 0, .slice none 0 0, .int .i64 0]
    rw [World.size_alloc] at hx
    exact hx
  have E0 : Hid (Below w.heap.size w ((w.alloc (.cells #[.slice (A) n c, .int .i64 (p), .slice (A') n' c', .int .i64 (q), .slice (A2) n2 c2, .int .i64 (z)] 30)).alloc (.cells #[.slice none 0 0, .int .i64 0, .slice none 0 0, .int .i64 0, .slice none 0 0, .int .i64 0] 30))) := (by go_grown : Below w.heap.size w _)
  have s0 : (((w.alloc (.cells #[.slice (A) n c, .int .i64 (p), .slice (A') n' c', .int .i64 (q), .slice (A2) n2 c2, .int .i64 (z)] 30)).alloc (.cells #[.slice none 0 0, .int .i64 0, .slice none 0 0, .int .i64 0, .slice none 0 0, .int .i64 0] 30))).heap.size = w.heap.size + 2 := by simp
  have HE0 : Hid (Errs ((w.alloc (.cells #[.slice (A) n c, .int .i64 (p), .slice (A') n' c', .int .i64 (q), .slice (A2) n2 c2, .int .i64 (z)] 30)).alloc (.cells #[.slice none 0 0, .int .i64 0, .slice none 0 0, .int .i64 0, .slice none 0 0, .int .i64 0] 30)) E a0 a1 a2) := hE.below E0.out hEw
  clear h h' g hE hl
  have x0 := (X0.out.2 0 _ rfl).1; have x1 := (X0.out.2 1 _ rfl).1; have x2 := (X0.out.2 2 _ rfl).1; have x3 := (X0.out.2 3 _ rfl).1; have x4 := (X0.out.2 4 _ rfl).1; have x5 := (X0.out.2 5 _ rfl).1
  go_enter Tryd.func23, Tryd.ntmps23
  go_wp2_with fail
  generalize ((w.alloc (.cells #[.slice (A) n c, .int .i64 (p), .slice (A') n' c', .int .i64 (q), .slice (A2) n2 c2, .int .i64 (z)] 30)).alloc (.cells #[.slice none 0 0, .int .i64 0, .slice none 0 0, .int .i64 0, .slice none 0 0, .int .i64 0] 30)) = w0 at *
  clear x0 x1 x2 x3 x4 x5
  refine (writeUpTo_any HE0.out (by omega) H1.out H2.out G1.out T1.out (by omega) (by omega) (by omega) (by omega) hc hc1 hc2 hcL _hn _hn1 _hn2 _hnL).mono ?_
  obtain ⟨O, hO⟩ : ∃ O, wbOut D p S q R z 10 L = O := ⟨_, rfl⟩
  rw [hO]
  have HO := Lib.hid hO
  clear hO
  rintro e w1 ⟨A5, n5, c5, A5', n5', c5', A6, n6, c6, rfl, hcs, hb1, ⟨⟨hd, hd', ha, hp, hq⟩, hr, ha1, ha2, hz⟩⟩
  have R1 := Lib.hid (R0.out.below hb1 (by omega))
  have E1 := Lib.hid (below_step hb1 E0.out (by omega))
  have s1 := hb1.size
  have D1 := Lib.hid hd; have D2 := Lib.hid hd'; have D3 := Lib.hid hr
  have AP := Lib.hid (And.intro ha (And.intro ha1 ha2))
  clear hb1 R0 E0 hd hd' hr ha ha1 ha2
  have r0 := (R1.out.2 0 _ rfl).1; have r1 := (R1.out.2 1 _ rfl).1; have r2 := (R1.out.2 2 _ rfl).1; have r3 := (R1.out.2 3 _ rfl).1; have r4 := (R1.out.2 4 _ rfl).1; have r5 := (R1.out.2 5 _ rfl).1
  have g0 := (R1.out.2 0 _ rfl).2; have g1 := (R1.out.2 1 _ rfl).2; have g2 := (R1.out.2 2 _ rfl).2; have g3 := (R1.out.2 3 _ rfl).2; have g4 := (R1.out.2 4 _ rfl).2; have g5 := (R1.out.2 5 _ rfl).2
  go_wp2
  refine bodyPost_ret (v := .tuple #[.agg #[.slice (A5) n5 c5, .int .i64 (O.1.p), .slice (A5') n5' c5', .int .i64 (O.1.q), .slice (A6) n6 c6, .int .i64 (O.1.z)], .int .i64 O.2.1, .int .i64 O.2.2]) (by simp [results, Tryd.results23, go_sem, r0, r1, r2, r3, r4, r5, g0, g1, g2, g3, g4, g5]) rfl ?_
  rw [HO.out]
  refine ⟨A5, n5, c5, A5', n5', c5', A6, n6, c6, rfl, hcs, ?_, ⟨⟨?_, ?_, AP.out.1, hp, hq⟩, ?_, AP.out.2.1, AP.out.2.2, hz⟩⟩
  · (repeat (with_reducible refine below_set ?_ (by omega) _))
    exact E1.out
  · simp only [World.size_setCell]
    refine Ints.more (lo := w0.heap.size) (hi := w1.heap.size) ?_ (by omega) (Nat.le_refl _)
    (repeat (with_reducible refine Ints.set_ ?_ (by omega) _))
    exact D1.out
  · simp only [World.size_setCell]
    refine Ints.more (lo := w0.heap.size) (hi := w1.heap.size) ?_ (by omega) (Nat.le_refl _)
    (repeat (with_reducible refine Ints.set_ ?_ (by omega) _))
    exact D2.out
  · simp only [World.size_setCell]
    refine Ints.more (lo := w0.heap.size) (hi := w1.heap.size) ?_ (by omega) (Nat.le_refl _)
    (repeat (with_reducible refine Ints.set_ ?_ (by omega) _))
    exact D3.out
end
end Go.Proofs.YtdiebkaedjlckaaDoor
