/- A reader at work: seek; the program's SeekReader. -/
import Derived.Test.YtmjmplfhedknhaaC2j
import Derived.Test.YtmjmplfhedknhaaC1h
import Derived.Deep.RegionHeld3
namespace Go.Proofs.Ytmjmplfhedknhaa
open Go.ChangeShapes Go.WideShapes Go.ChangeAt Go.RowKit
set_option linter.unusedSimpArgs false
set_option linter.unusedVariables false
set_option maxRecDepth 10000

/-! Where a reader is after it went to the place t. -/
def skIn (p : Int) (R : List Int) (t : Int) : Bool := inB t (p - (R.length : Int)) p
def skP (p : Int) (R : List Int) (t : Int) : Int := if skIn p R t then p else t
def skR (p : Int) (R : List Int) (t : Int) : List Int := if skIn p R t then R.drop (t - (p - (R.length : Int))).toNat else []
def seekROut (D : List Int) (p : Int) (S : List Int) (q : Int) (R : List Int) (z off wh : Int) : Rv × Bool :=
  if validR D p S q R z && seekOk (seekAt D.length (p - (R.length : Int)) off wh) then
    (⟨D, skP p R (seekTo (seekAt D.length (p - (R.length : Int)) off wh)), S, q, skR p R (seekTo (seekAt D.length (p - (R.length : Int)) off wh)), z⟩, true) else (.zero, false)
theorem skP_in {p t : Int} {R : List Int} (hp : 0 ≤ p ∧ p ≤ 60) (ht : 0 ≤ t ∧ t ≤ 60) : 0 ≤ skP p R t ∧ skP p R t ≤ 60 := by
  unfold skP
  split <;> omega
theorem tell_ok {D S R : List Int} {p q z : Int} (h : validR D p S q R z = true) : 0 ≤ p - (R.length : Int) ∧ p - (R.length : Int) ≤ 60 := by
  obtain ⟨hvd, _, _, hah⟩ := validR_iff.1 h
  obtain ⟨hb, _, _, ⟨hp0, hp1⟩, _⟩ := validD_iff.1 hvd
  unfold aheadB at hah
  by_cases h0 : R.length = 0
  · omega
  · rw [decide_eq_false h0, Bool.false_or, Bool.and_eq_true, Bool.and_eq_true] at hah
    have h1 := of_decide_eq_true hah.1
    omega
theorem skR_len (p : Int) (R : List Int) (t : Int) : (skR p R t).length ≤ R.length := by
  unfold skR
  split
  · rw [List.length_drop]; omega
  · simp
theorem seekROut_le (D : List Int) (p : Int) (S : List Int) (q : Int) (R : List Int) (z off wh : Int) : (seekROut D p S q R z off wh).1.d.length ≤ 60 ∧ (seekROut D p S q R z off wh).1.s.length ≤ 60 ∧ (seekROut D p S q R z off wh).1.r.length ≤ 60 := by
  unfold seekROut
  split
  · obtain ⟨hv, hz, hl, _⟩ := validR_iff.1 (Bool.and_eq_true_iff.1 ‹_›).1
    obtain ⟨hb, hs, _⟩ := validD_iff.1 hv
    refine ⟨bytesB_le hb, by show S.length ≤ 60; omega, ?_⟩
    have := skR_len p R (seekTo (seekAt D.length (p - (R.length : Int)) off wh))
    show (skR p R _).length ≤ 60
    omega
  · exact ⟨by decide, by decide, by decide⟩

theorem r2_post {w w4 : World} {lo b n c n' c' n5 c5 M' C' a : Nat} {A A' A5 : Option Addr} {D S R : List Int} {z p : Int} {u0 u1 u2 u3 u4 u5 : Value} (hE : Below w.heap.size w w4) (hlo : w.heap.size + 2 ≤ lo) (h : LookAt lo b A n c A' n' c' D S z p a A5 n5 c5 M' C' R w4)
    (ha : Apart A n A' n') (hp : 0 ≤ p ∧ p ≤ 60) (hq : a ≤ 1000) (hz : 1 ≤ z ∧ z ≤ 16) (hc' : n' ≤ c') :
    Post2R (⟨D, p, S, (a : Int), R, z⟩, true) w (.returned (.tuple #[.agg #[.slice (A) n c, .int .i64 (p), .slice (A') n' c', .int .i64 ((a : Int)), .slice (A5) n5 c5, .int .i64 (z)], .bool true])) ((((((w4.setCell ⟨w.heap.size + 1, 0, none⟩ u0).setCell ⟨w.heap.size + 1, 1, none⟩ u1).setCell ⟨w.heap.size + 1, 2, none⟩ u2).setCell ⟨w.heap.size + 1, 3, none⟩ u3).setCell ⟨w.heap.size + 1, 4, none⟩ u4).setCell ⟨w.heap.size + 1, 5, none⟩ u5) := by
  obtain ⟨hX, ⟨hD, hS, hR⟩, hbM, ⟨hlob, hloM, hC⟩, ⟨hnc, hn5⟩, ha1, ha2⟩ := h
  have hbw := hX.lt
  refine ⟨A, n, c, A', n', c', A5, n5, c5, rfl, ⟨hnc, hc', hn5⟩, ?_, ⟨⟨?_, ?_, ha, ?_, ?_⟩, ?_, ha1, ha2, ?_⟩⟩
  · (repeat (with_reducible refine below_set ?_ (by omega) _))
    exact hE
  · simp only [World.size_setCell]
    refine Ints.more (lo := lo) (hi := b) ?_ (by omega) (by omega)
    (repeat (with_reducible refine Ints.set_ ?_ (by omega) _))
    exact hD
  · simp only [World.size_setCell]
    refine Ints.more (lo := lo) (hi := b) ?_ (by omega) (by omega)
    (repeat (with_reducible refine Ints.set_ ?_ (by omega) _))
    exact hS
  · unfold okInt; show _ ≤ p ∧ p ≤ _; omega
  · unfold okInt; show _ ≤ (a : Int) ∧ (a : Int) ≤ _; omega
  · simp only [World.size_setCell]
    refine Ints.more (lo := M') (hi := C') ?_ (by omega) (by omega)
    (repeat (with_reducible refine Ints.set_ ?_ (by omega) _))
    exact hR
  · unfold okInt; show _ ≤ z ∧ z ≤ _; omega

/-- Where a reader is after a seek, whether or not there was such a place. -/
def skP2 (p : Int) (R : List Int) (T : Option Int) : Int := if seekOk T then skP p R (seekTo T) else p
def skR2 (p : Int) (R : List Int) (T : Option Int) : List Int := if seekOk T then skR p R (seekTo T) else R
def SeekPost (lo b : Nat) (A : Option Addr) (n c : Nat) (A' : Option Addr) (n' c' : Nat) (D S : List Int) (z p : Int) (a : Nat) (R : List Int) (T : Option Int) (w : World) (e : Ending) (w' : World) : Prop :=
  ∃ A5 n5 c5 M' C', e = .returned (.bool (seekOk T)) ∧ Turn w.heap.size b w w' ∧ LookAt lo b A n c A' n' c' D S z (skP2 p R T) a A5 n5 c5 M' C' (skR2 p R T) w'
set_option maxHeartbeats 4000000 in
theorem seek_look {lo b n c n' c' a n2 c2 M C : Nat} {A A' A2 : Option Addr} {D S R : List Int} {z p off wh : Int} {T : Option Int} {w : World} (h : LookAt lo b A n c A' n' c' D S z p a A2 n2 c2 M C R w) (hp : 0 ≤ p ∧ p ≤ 60) (hn : n ≤ 60) (hn60 : n2 ≤ 60) (hnow : 0 ≤ p - (R.length : Int) ∧ p - (R.length : Int) ≤ 60) (hT : seekAt D.length (p - (R.length : Int)) off wh = T) :
    Calls Try.prog 57 #[.pointer (some ⟨b, 0, none⟩), .int .i64 off, .int .i64 wh] w (SeekPost lo b A n c A' n' c' D S z p a R T w) := by
  have HLK := Lib.hid h
  obtain ⟨_, ⟨hD, _, hR⟩, _⟩ := h
  have hl := hR.len
  have hl0 := hD.len
  have hin := seekTo_in (size := D.length) (now := p - (R.length : Int)) (off := off) (wh := wh)
  rw [hT] at hin
  have hcall := fun wx : World => placeFrom_any (off := off) (wh := wh) (now := p - (R.length : Int)) (size := (D.length : Int)) (w := wx) (by unfold okInt; omega) (by omega) (by omega) hnow.1 (by omega)
  rw [hT, ← hl0, ← hl] at hcall
  have HC : Hid (∀ wx : World, Calls Try.prog 81 #[.int .i64 off, .int .i64 wh, .int .i64 (p - (n2 : Int)), .int .i64 (n : Int)] wx fun e w' => e = .returned (.tuple #[.int .i64 (seekTo T), .bool (seekOk T)]) ∧ wx = w') := hcall
  have HLN := Lib.hid hl
  clear hcall hD hR hl0 hl hT
  obtain ⟨t, ht⟩ : ∃ t, seekTo T = t := ⟨_, rfl⟩
  have HTO := Lib.hid ht
  rw [ht] at hin HC
  clear ht
  have y0 := (HLK.out.1.2 0 _ rfl).1
  go_enter Try.func57, Try.ntmps57
  go_wp2_with fail
  go_region_held3 (fun w' => w'.cell? ⟨b, 0, none⟩ = some (.slice A n c)) (go_keep)
    (first | (go_at_call 63; refine (tell_any HLK.out.1.drew (by omega) (by omega)).mono ?_; rintro e w3 ⟨rfl, hb3⟩; (try simp only [World.size_alloc, World.size_setCell, World.size_drew] at hb3); have HB3 := Lib.hid hb3; have s3 := hb3.size; (try simp only [World.size_alloc, World.size_setCell, World.size_drew] at s3); have HLK3 := Lib.hid (LookAt.below (w := w.drew) HLK.out hb3 (Nat.le_refl _)); clear hb3; have y0 := (HLK3.out.1.2 0 _ rfl).1) | (go_at_call 81; refine (HC.out _).mono ?_; rintro e w3' ⟨rfl, rfl⟩))
  all_goals
    have E3 : Hid (Turn w.heap.size b w w3) := (Turn.refl _ _ _).drew.step HB3.out (by simp)
    clear HLK HB3 HC
    clear y0
    cases hok : seekOk T
    · go_wp2
      go_ret
      refine ⟨A2, n2, c2, M, C, by rw [hok]; rfl, E3.out, ?_⟩
      unfold skP2 skR2
      rw [hok]
      exact HLK3.out
    · have HK2 : Hid (skP2 p R T = skP p R t ∧ skR2 p R T = skR p R t) := by
        show _ ∧ _
        unfold skP2 skR2
        rw [hok, if_pos rfl, if_pos rfl, HTO.out]
        exact ⟨rfl, rfl⟩
      have HOK := Lib.hid hok
      clear hok
      go_wp2_with fail
      refine (tell_any HLK3.out.1 (by omega) (by omega)).mono ?_
      rintro e w4 ⟨rfl, hb4⟩
      have s4 := hb4.size
      have T4 : Hid (Turn w.heap.size b w w4) := E3.out.step hb4 (by omega)
      have HLK4 := Lib.hid (LookAt.below HLK3.out hb4 (Nat.le_refl _))
      clear hb4 E3 HLK3
      obtain ⟨hX, ⟨hD, hS, hR⟩, hbM, ⟨hlo, hloM, hC⟩, ⟨hnc, hn2⟩, ha1, ha2⟩ := HLK4.out
      have hbw := hX.lt
      have X1 := Lib.hid hX
      have HD := Lib.hid hD
      have HS := Lib.hid hS
      have HR := Lib.hid hR
      have HA := Lib.hid (And.intro ha1 ha2)
      clear hX hD hS hR ha1 ha2 HLK4
      have x0 := (X1.out.2 0 _ rfl).1; have x1 := (X1.out.2 1 _ rfl).1; have x2 := (X1.out.2 2 _ rfl).1; have x3 := (X1.out.2 3 _ rfl).1; have x4 := (X1.out.2 4 _ rfl).1; have x5 := (X1.out.2 5 _ rfl).1
      have f0 := (X1.out.2 0 _ rfl).2; have f1 := (X1.out.2 1 _ rfl).2; have f2 := (X1.out.2 2 _ rfl).2; have f3 := (X1.out.2 3 _ rfl).2; have f4 := (X1.out.2 4 _ rfl).2; have f5 := (X1.out.2 5 _ rfl).2
      by_cases hin2 : 0 ≤ t - (p - (n2 : Int)) ∧ t - (p - (n2 : Int)) ≤ n2
      · obtain ⟨k, hk⟩ : ∃ k : Nat, t - (p - (n2 : Int)) = (k : Int) := Int.eq_ofNat_of_zero_le hin2.1
        have hw : IntKind.i64.wrap (t - (p - (n2 : Int))) = (k : Int) := by rw [IntWalk.i64_in _ (by omega)]; exact hk
        have hkn : (k : Int) ≤ (n2 : Int) := by omega
        have hkN : k ≤ n2 := by omega
        have hkc : (k : Int) ≤ (c2 : Int) := by omega
        have hk0 : (0 : Int) ≤ (k : Int) := by omega
        have hib : inB (k : Int) 0 (n2 : Int) = true := inB_true hk0 hkn
        have HP : Hid (skP2 p R T = p ∧ skR2 p R T = R.drop k) := by
          show _ ∧ _
          have hl := HLN.out
          have hsk : skIn p R t = true := inB_true (by omega) (by omega)
          rw [HK2.out.1, HK2.out.2]
          unfold skP skR
          rw [hsk, if_pos rfl, if_pos rfl, ← hl, hk, Int.toNat_natCast]
          exact ⟨rfl, rfl⟩
        clear hk hin2
        by_cases hcm : c2 = k
        · go_wp2_with (go_at_call 38; refine (isIn_any).mono ?_; rintro e w' ⟨rfl, rfl⟩)
          go_ret
          obtain ⟨e1, e2⟩ := HP.out
          refine ⟨A2, n2 - k, 0, M, C, by rw [HOK.out]; rfl, T4.out.put _, ?_⟩
          rw [e1, e2]
          refine ⟨?_, ⟨?_, ?_, ?_⟩, hbM, ⟨hlo, hloM, by simp only [World.size_setCell]; omega⟩, ⟨hnc, by omega⟩, ?_, ?_⟩
          · have hx := X1.out.put (i := 4) (by simp) (.slice A2 (n2 - k) 0)
            simpa using hx
          · exact HD.out.set_ (.inr (Nat.le_refl _)) _
          · exact HS.out.set_ (.inr (Nat.le_refl _)) _
          · exact (HR.out.dropped (by omega) A2).set_ hbM _
          · rw [show n2 - k = 0 by omega]; exact Apart.zero.symm
          · rw [show n2 - k = 0 by omega]; exact Apart.zero.symm
        · go_wp2_with (go_at_call 38; refine (isIn_any).mono ?_; rintro e w' ⟨rfl, rfl⟩)
          go_ret
          obtain ⟨e1, e2⟩ := HP.out
          refine ⟨A2.map fun x => x.add k, n2 - k, c2 - k, M, C, by rw [HOK.out]; rfl, T4.out.put _, ?_⟩
          rw [e1, e2]
          refine ⟨?_, ⟨?_, ?_, ?_⟩, hbM, ⟨hlo, hloM, by simp only [World.size_setCell]; omega⟩, ⟨hnc, by omega⟩, ?_, ?_⟩
          · have hx := X1.out.put (i := 4) (by simp) (.slice (A2.map fun x => x.add k) (n2 - k) (c2 - k))
            simpa using hx
          · exact HD.out.set_ (.inr (Nat.le_refl _)) _
          · exact HS.out.set_ (.inr (Nat.le_refl _)) _
          · exact (HR.out.drop hkN).set_ hbM _
          · exact HA.out.1.part2 HR.out (by omega)
          · exact HA.out.2.part2 HR.out (by omega)
      · obtain ⟨s, hs⟩ : ∃ s, t - (p - (n2 : Int)) = s := ⟨_, rfl⟩
        have hw : IntKind.i64.wrap (t - (p - (n2 : Int))) = s := by rw [IntWalk.i64_in _ (by omega)]; exact hs
        have hib : inB s 0 (n2 : Int) = false := inB_false_iff.2 (by rw [← hs]; exact hin2)
        have HP : Hid (skP2 p R T = t ∧ skR2 p R T = []) := by
          show _ ∧ _
          have hl := HLN.out
          have hsk : skIn p R t = false := inB_false_iff.2 (by omega)
          rw [HK2.out.1, HK2.out.2]
          unfold skP skR
          rw [hsk]
          exact ⟨rfl, rfl⟩
        clear hs hin2
        go_wp2_with (go_at_call 38; refine (isIn_any).mono ?_; rintro e w' ⟨rfl, rfl⟩)
        go_ret
        obtain ⟨e1, e2⟩ := HP.out
        refine ⟨none, 0, 0, M, C, by rw [HOK.out]; rfl, (T4.out.put _).put _, ?_⟩
        rw [e1, e2]
        refine ⟨?_, ⟨?_, ?_, (Ints.nil _ _ _ 0 _).1⟩, hbM, ⟨hlo, hloM, by simp only [World.size_setCell]; omega⟩, ⟨hnc, Nat.le_refl _⟩, Apart.zero.symm, Apart.zero.symm⟩
        · have hx := (X1.out.put (i := 4) (by simp) (.slice none 0 0)).put (i := 1) (by simp) (.int .i64 t)
          simpa using hx
        · exact (HD.out.set_ (.inr (Nat.le_refl _)) _).set_ (.inr (Nat.le_refl _)) _
        · exact (HS.out.set_ (.inr (Nat.le_refl _)) _).set_ (.inr (Nat.le_refl _)) _
set_option maxHeartbeats 4000000 in
theorem SeekReader_any {A A' A2 : Option Addr} {n c n' c' n2 c2 : Nat} {D S R : List Int} {p q z off wh : Int} {w : World} {L L' B B' M C : Nat} (h : Ints w L B A n D) (h' : Ints w L' B' A' n' S) (g : Ints w M C A2 n2 R) (hB : B ≤ w.heap.size) (hB' : B' ≤ w.heap.size) (hC : C ≤ w.heap.size) (hnc : n ≤ c) :
    Calls Try.prog 26 #[.agg #[.slice (A) n c, .int .i64 (p), .slice (A') n' c', .int .i64 (q), .slice (A2) n2 c2, .int .i64 (z)], .int .i64 off, .int .i64 wh] w (Post2R (seekROut D p S q R z off wh) w) := by
  have HG := Lib.hid g.len
  have HL := Lib.hid h.len
  have HL' := Lib.hid h'.len
  have H1 : Hid (Ints ((w.alloc (.cells #[.slice (A) n c, .int .i64 (p), .slice (A') n' c', .int .i64 (q), .slice (A2) n2 c2, .int .i64 (z)] 27)).alloc (.cells #[.slice none 0 0, .int .i64 0, .slice none 0 0, .int .i64 0, .slice none 0 0, .int .i64 0] 27)) L B A n D) := (h.alloc hB _).alloc (by first | omega | (simp; omega) | (simp; done)) _
  have H2 : Hid (Ints ((w.alloc (.cells #[.slice (A) n c, .int .i64 (p), .slice (A') n' c', .int .i64 (q), .slice (A2) n2 c2, .int .i64 (z)] 27)).alloc (.cells #[.slice none 0 0, .int .i64 0, .slice none 0 0, .int .i64 0, .slice none 0 0, .int .i64 0] 27)) L' B' A' n' S) := (h'.alloc hB' _).alloc (by first | omega | (simp; omega) | (simp; done)) _
  have G1 : Hid (Ints ((w.alloc (.cells #[.slice (A) n c, .int .i64 (p), .slice (A') n' c', .int .i64 (q), .slice (A2) n2 c2, .int .i64 (z)] 27)).alloc (.cells #[.slice none 0 0, .int .i64 0, .slice none 0 0, .int .i64 0, .slice none 0 0, .int .i64 0] 27)) M C A2 n2 R) := (g.alloc hC _).alloc (by first | omega | (simp; omega) | (simp; done)) _
  have X0 : Hid (Box ((w.alloc (.cells #[.slice (A) n c, .int .i64 (p), .slice (A') n' c', .int .i64 (q), .slice (A2) n2 c2, .int .i64 (z)] 27)).alloc (.cells #[.slice none 0 0, .int .i64 0, .slice none 0 0, .int .i64 0, .slice none 0 0, .int .i64 0] 27)) w.heap.size [.slice (A) n c, .int .i64 (p), .slice (A') n' c', .int .i64 (q), .slice (A2) n2 c2, .int .i64 (z)]) := (Box.new w 27 [.slice (A) n c, .int .i64 (p), .slice (A') n' c', .int .i64 (q), .slice (A2) n2 c2, .int .i64 (z)]).alloc _
  have R0 : Hid (Box ((w.alloc (.cells #[.slice (A) n c, .int .i64 (p), .slice (A') n' c', .int .i64 (q), .slice (A2) n2 c2, .int .i64 (z)] 27)).alloc (.cells #[.slice none 0 0, .int .i64 0, .slice none 0 0, .int .i64 0, .slice none 0 0, .int .i64 0] 27)) (w.heap.size + 1) [.slice none 0 0, .int .i64 0, .slice none 0 0, .int .i64 0, .slice none 0 0, .int .i64 0]) := by
    have hx := Box.new (w.alloc (.cells #[.slice (A) n c, .int .i64 (p), .slice (A') n' c', .int .i64 (q), .slice (A2) n2 c2, .int .i64 (z)] 27)) 27 [.slice none 0 0, .int .i64 0, .slice none 0 0, .int .i64 0, .slice none 0 0, .int .i64 0]
    rw [World.size_alloc] at hx
    exact hx
  have E0 : Hid (Below w.heap.size w ((w.alloc (.cells #[.slice (A) n c, .int .i64 (p), .slice (A') n' c', .int .i64 (q), .slice (A2) n2 c2, .int .i64 (z)] 27)).alloc (.cells #[.slice none 0 0, .int .i64 0, .slice none 0 0, .int .i64 0, .slice none 0 0, .int .i64 0] 27))) := (by go_grown : Below w.heap.size w _)
  have s0 : (((w.alloc (.cells #[.slice (A) n c, .int .i64 (p), .slice (A') n' c', .int .i64 (q), .slice (A2) n2 c2, .int .i64 (z)] 27)).alloc (.cells #[.slice none 0 0, .int .i64 0, .slice none 0 0, .int .i64 0, .slice none 0 0, .int .i64 0] 27))).heap.size = w.heap.size + 2 := by simp
  clear h h' g
  go_enter Try.func26, Try.ntmps26
  go_wp2_with fail
  generalize ((w.alloc (.cells #[.slice (A) n c, .int .i64 (p), .slice (A') n' c', .int .i64 (q), .slice (A2) n2 c2, .int .i64 (z)] 27)).alloc (.cells #[.slice none 0 0, .int .i64 0, .slice none 0 0, .int .i64 0, .slice none 0 0, .int .i64 0] 27)) = w0 at *
  refine (ValidReader_any H1.out H2.out G1.out (by omega) (by omega) (by omega) hnc).mono ?_
  rintro e w1 ⟨rfl, hb1⟩
  have s1 := hb1.size
  have E1 := Lib.hid (below_step hb1 E0.out (by omega))
  have X1 := Lib.hid (X0.out.below hb1 (by omega))
  have R1 := Lib.hid (R0.out.below hb1 (by omega))
  have I1 := Lib.hid (H1.out.below hb1 (by omega))
  have I2 := Lib.hid (H2.out.below hb1 (by omega))
  have G2 := Lib.hid (G1.out.below hb1 (by omega))
  clear hb1 H1 H2 G1 X0 R0 E0
  cases hg : validR D p S q R z
  · have HO : Hid (seekROut D p S q R z off wh = (Rv.zero, false)) := by show _ = _; simp [seekROut, hg]
    clear hg
    have r0 := (R1.out.2 0 _ rfl).1; have r1 := (R1.out.2 1 _ rfl).1; have r2 := (R1.out.2 2 _ rfl).1; have r3 := (R1.out.2 3 _ rfl).1; have r4 := (R1.out.2 4 _ rfl).1; have r5 := (R1.out.2 5 _ rfl).1
    have g0 := (R1.out.2 0 _ rfl).2; have g1 := (R1.out.2 1 _ rfl).2; have g2 := (R1.out.2 2 _ rfl).2; have g3 := (R1.out.2 3 _ rfl).2; have g4 := (R1.out.2 4 _ rfl).2; have g5 := (R1.out.2 5 _ rfl).2
    go_wp2
    refine bodyPost_ret (v := .tuple #[.agg #[.slice none 0 0, .int .i64 0, .slice none 0 0, .int .i64 0, .slice none 0 0, .int .i64 0], .bool false]) (by simp [results, Try.results26, go_sem, r0, r1, r2, r3, r4, r5, g0, g1, g2, g3, g4, g5]) rfl ?_
    rw [HO.out]
    refine Post2R.zero ?_
    (repeat (with_reducible refine below_set ?_ (by omega) _))
    exact E1.out
  · have hK := start_ok hg
    obtain ⟨hvd, hz, hRz, hah⟩ := validR_iff.1 hg
    obtain ⟨hb, hs12, _, hp, hq⟩ := validD_iff.1 hvd
    have hn60 : n ≤ 60 := by rw [HL.out]; exact bytesB_le hb
    have hn12 : n' ≤ 12 := by rw [HL'.out]; exact hs12
    have hn16 : n2 ≤ 16 := by have := HG.out; omega
    have hnow := tell_ok hg
    obtain ⟨a, rfl⟩ := Int.eq_ofNat_of_zero_le hq.1
    obtain ⟨T, hT⟩ : ∃ T, seekAt D.length (p - (R.length : Int)) off wh = T := ⟨_, rfl⟩
    have hin := seekTo_in (size := D.length) (now := p - (R.length : Int)) (off := off) (wh := wh)
    rw [hT] at hin
    have HO : Hid (seekROut D p S a R z off wh = if seekOk T then (⟨D, skP p R (seekTo T), S, (a : Int), skR p R (seekTo T), z⟩, true) else (Rv.zero, false)) := by show _ = _; simp [seekROut, hg, hT]
    have HTT := Lib.hid hT
    clear hg hvd hb hs12 hah hT
    have x0 := (X1.out.2 0 _ rfl).1; have x1 := (X1.out.2 1 _ rfl).1; have x2 := (X1.out.2 2 _ rfl).1; have x3 := (X1.out.2 3 _ rfl).1; have x4 := (X1.out.2 4 _ rfl).1; have x5 := (X1.out.2 5 _ rfl).1
    go_wp2_with fail
    refine (lookaheadOf_any I1.out I2.out G2.out (by omega) (by omega) (by omega) (by omega) (by omega) (by omega) (by unfold okInt; omega) (by unfold okInt; omega)).mono ?_
    rintro e w2 ⟨b, A3, n3, c3, A3', n3', c3', A4, n4, c4, rfl, ⟨hc3, hc3', hc4⟩, hb2, hbl, hx, h1, h2, h3, ha, ha1, ha2⟩
    have hbw := hx.lt
    have s2 := hb2.size
    have HN3 := Lib.hid h1.len
    have HN4 := Lib.hid h3.len
    have HLK : Hid (LookAt w1.heap.size b A3 n3 c3 A3' n3' c3' D S z p a A4 n4 c4 w1.heap.size b R w2) := ⟨hx, ⟨h1, h2, h3⟩, .inr (Nat.le_refl _), ⟨hbl, Nat.le_refl _, by omega⟩, ⟨hc3, hc4⟩, ha1, ha2⟩
    have HA := Lib.hid ha
    have R2 := Lib.hid (R1.out.below hb2 (by omega))
    have E2 := Lib.hid (below_step hb2 E1.out (by omega))
    have hn4 : n4 ≤ 60 := by have := HN4.out; have := HG.out; omega
    have hn3 : n3 ≤ 60 := by have := HN3.out; have := HL.out; omega
    have hbS := hbl
    clear hb2 hx h1 h2 h3 ha ha1 ha2 R1 E1 I1 I2 G2 X1
    clear x0 x1 x2 x3 x4 x5
    go_wp2_with fail
    refine (seek_look HLK.out hp hn3 hn4 hnow HTT.out).mono ?_
    rintro e w4 ⟨A5, n5, c5, M', C', rfl, ht, hlk⟩
    have s4 := ht.size
    have R4 := Lib.hid (R2.out.turn ht (by omega) (by omega))
    have E4 : Hid (Below w.heap.size w w4) := E2.out.trans (ht.below (by omega) (by omega))
    have HLK4 := Lib.hid hlk
    clear ht hlk R2 E2 HLK
    cases hok : seekOk T
    · have r0 := (R4.out.2 0 _ rfl).1; have r1 := (R4.out.2 1 _ rfl).1; have r2 := (R4.out.2 2 _ rfl).1; have r3 := (R4.out.2 3 _ rfl).1; have r4 := (R4.out.2 4 _ rfl).1; have r5 := (R4.out.2 5 _ rfl).1
      have g0 := (R4.out.2 0 _ rfl).2; have g1 := (R4.out.2 1 _ rfl).2; have g2 := (R4.out.2 2 _ rfl).2; have g3 := (R4.out.2 3 _ rfl).2; have g4 := (R4.out.2 4 _ rfl).2; have g5 := (R4.out.2 5 _ rfl).2
      go_wp2
      refine bodyPost_ret (v := .tuple #[.agg #[.slice none 0 0, .int .i64 0, .slice none 0 0, .int .i64 0, .slice none 0 0, .int .i64 0], .bool false]) (by simp [results, Try.results26, go_sem, r0, r1, r2, r3, r4, r5, g0, g1, g2, g3, g4, g5]) rfl ?_
      rw [HO.out, hok]
      refine Post2R.zero ?_
      (repeat (with_reducible refine below_set ?_ (by omega) _))
      exact E4.out
    · have HP2 : Hid (skP2 p R T = skP p R (seekTo T)) := by show _ = _; unfold skP2; rw [hok]; rfl
      have HR2 : Hid (skR2 p R T = skR p R (seekTo T)) := by show _ = _; unfold skR2; rw [hok]; rfl
      rw [HP2.out, HR2.out] at HLK4
      go_wp2_with fail
      refine (reader_any HLK4.out.1).mono ?_
      rintro e w5 ⟨rfl, hb5⟩
      have s5 := hb5.size
      have HLK5 := Lib.hid (HLK4.out.below hb5 (Nat.le_refl _))
      have R5 := Lib.hid (R4.out.below hb5 (by omega))
      have E5 := Lib.hid (below_step hb5 E4.out (by omega))
      clear hb5 HLK4 R4 E4
      have r0 := (R5.out.2 0 _ rfl).1; have r1 := (R5.out.2 1 _ rfl).1; have r2 := (R5.out.2 2 _ rfl).1; have r3 := (R5.out.2 3 _ rfl).1; have r4 := (R5.out.2 4 _ rfl).1; have r5 := (R5.out.2 5 _ rfl).1
      have g0 := (R5.out.2 0 _ rfl).2; have g1 := (R5.out.2 1 _ rfl).2; have g2 := (R5.out.2 2 _ rfl).2; have g3 := (R5.out.2 3 _ rfl).2; have g4 := (R5.out.2 4 _ rfl).2; have g5 := (R5.out.2 5 _ rfl).2
      go_wp2
      refine bodyPost_ret (v := .tuple #[.agg #[.slice (A3) n3 c3, .int .i64 (skP p R (seekTo T)), .slice (A3') n3' c3', .int .i64 ((a : Int)), .slice (A5) n5 c5, .int .i64 (z)], .bool true]) (by simp [results, Try.results26, go_sem, r0, r1, r2, r3, r4, r5, g0, g1, g2, g3, g4, g5]) rfl ?_
      rw [HO.out, hok, if_pos rfl]
      exact r2_post E5.out (by omega) HLK5.out HA.out (skP_in hp hin) (by omega) hz hc3'
end Go.Proofs.Ytmjmplfhedknhaa
