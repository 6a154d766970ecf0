/- The law of promise 60: bytes can come in parts. No conditions. -/
import Derived.Test.YtkgjcoakeliocaaDoorR1
import Derived.Test.YtkgjcoakeliocaaDoorR2
import Derived.Test.YtkgjcoakeliocaaDoorVB
import Derived.Test.YtkgjcoakeliocaaDoorG1
import Derived.Test.YtkgjcoakeliocaaDoorCards
import Derived.Test.YtkgjcoakeliocaaDoorTie
set_option maxRecDepth 10000
namespace Go.Proofs.YtkgjcoakeliocaaDoor
open Go.ChangeShapes Go.WideShapes Go.ChangeAt Go.RowKit
set_option linter.unusedSimpArgs false
set_option linter.unusedVariables false
namespace LawDecodeSome
theorem ds_cut {m lead wt : Int} {f : Bool} {xs L : List Int} (h : dsOk xs lead m = true) (e : dsR m f xs lead = (L, wt, true)) (k : Nat) :
    ∃ L1 mid L2, dsR m false (xs.take k) lead = (L1, mid, true) ∧ dsR m f (xs.drop k) mid = (L2, wt, true) ∧ L1 ++ L2 = L ∧ L1.length ≤ 122 ∧ L2.length ≤ 122 := by
  have hp := dsOk_parts h
  have ha := sm_app m f (xs.drop k) (xs.take k) lead
  rw [List.take_append_drop, ← ds_yes h, e] at ha
  have h1 : dsOk (xs.take k) lead m = true := by unfold dsOk; rw [bytesB_take hp.1, hp.2.1, hp.2.2]; rfl
  have hw := sm_waits m false (xs.take k) lead hp.2.1
  obtain ⟨L1, mid, ok, hL1⟩ : ∃ L1 mid ok, sm m false (xs.take k) lead = (L1, mid, ok) := ⟨_, _, _, rfl⟩
  rw [hL1] at ha hw
  cases ok with
  | false => rw [if_neg (by simp)] at ha; cases ha
  | true =>
    rw [if_pos rfl] at ha
    have h2 : dsOk (xs.drop k) mid m = true := by unfold dsOk; rw [bytesB_drop hp.1, hw, hp.2.2]; rfl
    obtain ⟨L2, w2, ok2, hL2⟩ : ∃ L2 w2 ok2, sm m f (xs.drop k) mid = (L2, w2, ok2) := ⟨_, _, _, rfl⟩
    have hb : put L1 (sm m f (xs.drop k) mid) = (L, wt, true) := ha.symm
    rw [hL2] at hb
    unfold put at hb
    injection hb with b1 b2
    injection b2 with b2 b3
    have b2' : w2 = wt := b2
    have b3' : ok2 = true := b3
    subst b2' b3'
    have e1 : dsR m false (xs.take k) lead = (L1, mid, true) := (ds_yes h1).trans hL1
    have e2 : dsR m f (xs.drop k) mid = (L2, w2, true) := (ds_yes h2).trans hL2
    have l1 := dsR_le m false (xs.take k) lead
    have l2 := dsR_le m f (xs.drop k) mid
    rw [e1] at l1
    rw [e2] at l2
    exact ⟨L1, mid, L2, e1, e2, b1, l1, l2⟩
theorem goneV {w : World} {lo hi n a : Nat} {A : Option Addr} {xs : List Int} (h : Ints w lo hi A n xs) (hz : n ≤ a) (A' : Option Addr) : Ints w lo hi A' 0 (xs.drop a) := by
  have hl := h.len
  have e : xs.drop a = [] := List.drop_eq_nil_of_le (by omega)
  rw [e]
  exact (Ints.nil w lo hi 0 A').1
set_option maxHeartbeats 8000000 in
theorem walk (A : Option Addr) (n c : Nat) (w : World) (h : BytesIn w w.heap.size A n) (hnc : n ≤ c) (hm : n ≤ 9223372036854775807) (HT : Tab w) :
    Calls Tryd.prog 5 #[.slice A n c] w (BoolB true w) := by
  have HBY := Lib.hid h
  clear h
  have EB := Lib.hid (Below.refl w.heap.size w)
  have tl := HT.lt
  have TB : Hid (Box w 0 tabL) := HT
  clear HT
  by_cases hbig : (1048576 : Int) < (n : Int)
  · go_enter Tryd.func5, Tryd.ntmps5
    go_wp2
    go_ret
    exact ⟨rfl, Below.refl _ _⟩
  go_enter Tryd.func5, Tryd.ntmps5
  go_wp2_with fail
  refine (DrawDecodeSome_any HBY.out (by omega) hnc).mono ?_
  rintro e w1 ⟨Ad, nd, cd, Dd, zl, fd, zm, rfl, hcd, hnd, hb, hl, hzl, hzm⟩
  (try simp only [World.size_alloc, World.size_setCell, World.size_drew] at hb)
  have HB := Lib.hid hb
  clear hb
  have s1 := HB.out.size
  (try simp only [World.size_alloc, World.size_setCell, World.size_drew] at s1)
  replace TB := Lib.hid (TB.out.below HB.out (by omega))
  replace EB := Lib.hid (below_step HB.out EB.out (by omega))
  clear HB
  have d1 := Lib.hid hl
  clear hl HBY
  obtain ⟨L, wt, ok, hLW⟩ : ∃ L wt ok, dsR zm fd Dd zl = (L, wt, ok) := ⟨_, _, _, rfl⟩
  have HLW := Lib.hid hLW
  clear hLW
  cases ok
  · go_wp2_with fail
    refine (to_ds (DecodeSome_any (m := zm) (f := fd) d1.out (by omega) hcd TB.out) HLW.out).mono ?_
    rintro e w2 ⟨Ao, no, co, rfl, hco, hb, hl⟩
    (try simp only [World.size_alloc, World.size_setCell, World.size_drew] at hb)
    have HB := Lib.hid hb
    clear hb
    have s2 := HB.out.size
    (try simp only [World.size_alloc, World.size_setCell, World.size_drew] at s2)
    replace TB := Lib.hid (TB.out.below HB.out (by omega))
    replace d1 := Lib.hid (d1.out.below HB.out (by omega))
    replace EB := Lib.hid (below_step HB.out EB.out (by omega))
    clear HB
    have o1 := Lib.hid hl
    clear hl
    go_wp2_with fail
    refine (to_ds (SDecodeSome_any (m := zm) (f := fd) d1.out (by omega)) HLW.out).mono ?_
    rintro e w3 ⟨As, ns, cs, rfl, hcs, hb, hl⟩
    (try simp only [World.size_alloc, World.size_setCell, World.size_drew] at hb)
    have HB := Lib.hid hb
    clear hb
    have s3 := HB.out.size
    (try simp only [World.size_alloc, World.size_setCell, World.size_drew] at s3)
    replace TB := Lib.hid (TB.out.below HB.out (by omega))
    replace d1 := Lib.hid (d1.out.below HB.out (by omega))
    replace o1 := Lib.hid (o1.out.below HB.out (by omega))
    replace EB := Lib.hid (below_step HB.out EB.out (by omega))
    clear HB
    have s1 := Lib.hid hl
    clear hl
    go_wp2_with fail
    refine (equalInts_same o1.out s1.out rfl).mono ?_
    rintro e w4 ⟨rfl, hb⟩
    (try simp only [World.size_alloc, World.size_setCell, World.size_drew] at hb)
    have HB := Lib.hid hb
    clear hb
    have s4 := HB.out.size
    (try simp only [World.size_alloc, World.size_setCell, World.size_drew] at s4)
    replace TB := Lib.hid (TB.out.below HB.out (by omega))
    replace d1 := Lib.hid (d1.out.below HB.out (by omega))
    replace o1 := Lib.hid (o1.out.below HB.out (by omega))
    replace s1 := Lib.hid (s1.out.below HB.out (by omega))
    replace EB := Lib.hid (below_step HB.out EB.out (by omega))
    clear HB
    go_wp2_with fail
    refine (equalInts_same o1.out s1.out rfl).mono ?_
    rintro e w5 ⟨rfl, hb⟩
    (try simp only [World.size_alloc, World.size_setCell, World.size_drew] at hb)
    have HB := Lib.hid hb
    clear hb
    have s5 := HB.out.size
    (try simp only [World.size_alloc, World.size_setCell, World.size_drew] at s5)
    replace TB := Lib.hid (TB.out.below HB.out (by omega))
    replace d1 := Lib.hid (d1.out.below HB.out (by omega))
    replace o1 := Lib.hid (o1.out.below HB.out (by omega))
    replace s1 := Lib.hid (s1.out.below HB.out (by omega))
    replace EB := Lib.hid (below_step HB.out EB.out (by omega))
    clear HB
    go_wp2
    go_ret
    exact ⟨rfl, EB.out⟩
  · have hok : dsOk Dd zl zm = true := by cases e : dsOk Dd zl zm with | true => rfl | false => have h1 := HLW.out; rw [ds_no e] at h1; injection h1 with _ h1; injection h1 with _ h1
    have HCUT : Hid (∀ k, ∃ L1 mid L2, dsR zm false (Dd.take k) zl = (L1, mid, true) ∧ dsR zm fd (Dd.drop k) mid = (L2, wt, true) ∧ L1 ++ L2 = L ∧ L1.length ≤ 122 ∧ L2.length ≤ 122) := fun k => ds_cut hok HLW.out k
    have hw0 : fd = true → wt = 0 := fun e => by have h1 := HLW.out; rw [ds_yes hok, e] at h1; have h2 := sm_final (m := zm) (xs := Dd) (dsOk_parts hok).2.1; rw [h1] at h2; exact h2
    have HW0 := Lib.hid hw0
    clear hok hw0
    go_wp2_with fail
    refine (to_ds (DecodeSome_any (m := zm) (f := fd) d1.out (by omega) hcd TB.out) HLW.out).mono ?_
    rintro e w2 ⟨Ao, no, co, rfl, hco, hb, hl⟩
    (try simp only [World.size_alloc, World.size_setCell, World.size_drew] at hb)
    have HB := Lib.hid hb
    clear hb
    have s2 := HB.out.size
    (try simp only [World.size_alloc, World.size_setCell, World.size_drew] at s2)
    replace TB := Lib.hid (TB.out.below HB.out (by omega))
    replace d1 := Lib.hid (d1.out.below HB.out (by omega))
    replace EB := Lib.hid (below_step HB.out EB.out (by omega))
    clear HB
    have o1 := Lib.hid hl
    clear hl
    go_wp2_with fail
    refine (to_ds (SDecodeSome_any (m := zm) (f := fd) d1.out (by omega)) HLW.out).mono ?_
    rintro e w3 ⟨As, ns, cs, rfl, hcs, hb, hl⟩
    (try simp only [World.size_alloc, World.size_setCell, World.size_drew] at hb)
    have HB := Lib.hid hb
    clear hb
    have s3 := HB.out.size
    (try simp only [World.size_alloc, World.size_setCell, World.size_drew] at s3)
    replace TB := Lib.hid (TB.out.below HB.out (by omega))
    replace d1 := Lib.hid (d1.out.below HB.out (by omega))
    replace o1 := Lib.hid (o1.out.below HB.out (by omega))
    replace EB := Lib.hid (below_step HB.out EB.out (by omega))
    clear HB
    have s1 := Lib.hid hl
    clear hl
    go_wp2_with fail
    refine (equalInts_same o1.out s1.out rfl).mono ?_
    rintro e w4 ⟨rfl, hb⟩
    (try simp only [World.size_alloc, World.size_setCell, World.size_drew] at hb)
    have HB := Lib.hid hb
    clear hb
    have s4 := HB.out.size
    (try simp only [World.size_alloc, World.size_setCell, World.size_drew] at s4)
    replace TB := Lib.hid (TB.out.below HB.out (by omega))
    replace d1 := Lib.hid (d1.out.below HB.out (by omega))
    replace o1 := Lib.hid (o1.out.below HB.out (by omega))
    replace s1 := Lib.hid (s1.out.below HB.out (by omega))
    replace EB := Lib.hid (below_step HB.out EB.out (by omega))
    clear HB
    go_wp2_with fail
    go_loopw [13] (fun i wr => ∃ k : Nat, k ≤ nd + 1 ∧ i = .int .i64 k ∧ Hid (Below w4.heap.size w4 wr)) (fun i _ => nd + 1 - (intOf i).toNat)
    case atStart => exact ⟨0, by omega, rfl, Below.refl _ _⟩
    case round =>
      obtain ⟨k, hk, rfl, HBR⟩ := hrel
      have sr := HBR.out.size
      replace TB := Lib.hid (TB.out.below HBR.out (by omega))
      replace d1 := Lib.hid (d1.out.below HBR.out (by omega))
      replace o1 := Lib.hid (o1.out.below HBR.out (by omega))
      replace s1 := Lib.hid (s1.out.below HBR.out (by omega))
      by_cases hkn : k ≤ nd
      · obtain ⟨L1, mid, L2, h1, h2, h3, h4, h5⟩ := HCUT.out k
        have C1 := Lib.hid h1; have C2 := Lib.hid h2; have C3 := Lib.hid h3; clear h1 h2 h3
        have hkc : (k : Int) ≤ (cd : Int) := by omega
        have hk0 : (0 : Int) ≤ (k : Int) := by omega
        have hkd : (k : Int) ≤ (nd : Int) := by omega
        go_wp2_with fail
        refine (to_ds (DecodeSome_any (m := zm) (f := false) (d1.out.take hkn) (by omega) (by omega) TB.out) C1.out).mono ?_
        rintro e wa ⟨Af, nf, cf, rfl, hcf, hb, hl⟩
        have Ewa : Hid (Below w4.heap.size w4 wa) := below_step hb HBR.out (by omega)
        replace TB := Lib.hid (TB.out.below hb (by omega))
        replace d1 := Lib.hid (d1.out.below hb (by omega))
        replace o1 := Lib.hid (o1.out.below hb (by omega))
        have swa := hb.size
        have f1 := Lib.hid hl
        clear hb hl
        have hnf : nf ≤ 1048576 := by have := f1.out.len; omega
        rcases (by omega : k < nd ∨ (k = nd ∧ cd = nd) ∨ (k = nd ∧ nd < cd)) with hq | ⟨rfl, hcq⟩ | ⟨rfl, hq⟩
        · have hck : ¬ cd = k := by omega
          go_wp2_with fail
          refine (to_ds (DecodeSome_any (m := zm) (f := fd) (d1.out.drop hkn) (by omega) (by omega) TB.out) C2.out).mono ?_
          rintro e wb ⟨Ag, ng, cg, rfl, hcg, hb, hl⟩
          have Ewb : Hid (Below w4.heap.size w4 wb) := below_step hb Ewa.out (by omega)
          replace TB := Lib.hid (TB.out.below hb (by omega))
          replace d1 := Lib.hid (d1.out.below hb (by omega))
          replace o1 := Lib.hid (o1.out.below hb (by omega))
          replace f1 := Lib.hid (f1.out.below hb (by omega))
          have swb := hb.size
          have g1 := Lib.hid hl
          clear hb hl
          have hng : ng ≤ 1048576 := by have := g1.out.len; omega
          go_wp2_with fail
          refine (to_listN (join_any f1.out g1.out (by omega) (by omega) (by omega) (by omega)) C3.out).mono ?_
          rintro e wc ⟨Aj, nj, cj, rfl, hcj, hb, hl⟩
          have Ewc : Hid (Below w4.heap.size w4 wc) := below_step hb Ewb.out (by omega)
          replace TB := Lib.hid (TB.out.below hb (by omega))
          replace d1 := Lib.hid (d1.out.below hb (by omega))
          replace o1 := Lib.hid (o1.out.below hb (by omega))
          replace f1 := Lib.hid (f1.out.below hb (by omega))
          replace g1 := Lib.hid (g1.out.below hb (by omega))
          have swc := hb.size
          have j1 := Lib.hid hl
          clear hb hl
          go_wp2_with fail
          refine (equalInts_same j1.out o1.out rfl).mono ?_
          rintro e wd ⟨rfl, hb⟩
          have Ewd : Hid (Below w4.heap.size w4 wd) := below_step hb Ewc.out (by omega)
          replace TB := Lib.hid (TB.out.below hb (by omega))
          replace d1 := Lib.hid (d1.out.below hb (by omega))
          replace o1 := Lib.hid (o1.out.below hb (by omega))
          replace f1 := Lib.hid (f1.out.below hb (by omega))
          replace g1 := Lib.hid (g1.out.below hb (by omega))
          replace j1 := Lib.hid (j1.out.below hb (by omega))
          have swd := hb.size
          clear hb
          go_wp2
          go_roundw
          case rel => exact ⟨k + 1, by omega, by go_num, Ewd⟩
          case measure => first | (simp [intOf]; done) | (simp [intOf]; omega)
        · have hcq2 := hcq.symm
          subst hcq2
          go_wp2_with fail
          refine (to_ds (DecodeSome_any (m := zm) (f := fd) (goneV d1.out (Nat.le_refl _) _) (by omega) (by omega) TB.out) C2.out).mono ?_
          rintro e wb ⟨Ag, ng, cg, rfl, hcg, hb, hl⟩
          have Ewb : Hid (Below w4.heap.size w4 wb) := below_step hb Ewa.out (by omega)
          replace TB := Lib.hid (TB.out.below hb (by omega))
          replace d1 := Lib.hid (d1.out.below hb (by omega))
          replace o1 := Lib.hid (o1.out.below hb (by omega))
          replace f1 := Lib.hid (f1.out.below hb (by omega))
          have swb := hb.size
          have g1 := Lib.hid hl
          clear hb hl
          have hng : ng ≤ 1048576 := by have := g1.out.len; omega
          go_wp2_with fail
          refine (to_listN (join_any f1.out g1.out (by omega) (by omega) (by omega) (by omega)) C3.out).mono ?_
          rintro e wc ⟨Aj, nj, cj, rfl, hcj, hb, hl⟩
          have Ewc : Hid (Below w4.heap.size w4 wc) := below_step hb Ewb.out (by omega)
          replace TB := Lib.hid (TB.out.below hb (by omega))
          replace d1 := Lib.hid (d1.out.below hb (by omega))
          replace o1 := Lib.hid (o1.out.below hb (by omega))
          replace f1 := Lib.hid (f1.out.below hb (by omega))
          replace g1 := Lib.hid (g1.out.below hb (by omega))
          have swc := hb.size
          have j1 := Lib.hid hl
          clear hb hl
          go_wp2_with fail
          refine (equalInts_same j1.out o1.out rfl).mono ?_
          rintro e wd ⟨rfl, hb⟩
          have Ewd : Hid (Below w4.heap.size w4 wd) := below_step hb Ewc.out (by omega)
          replace TB := Lib.hid (TB.out.below hb (by omega))
          replace d1 := Lib.hid (d1.out.below hb (by omega))
          replace o1 := Lib.hid (o1.out.below hb (by omega))
          replace f1 := Lib.hid (f1.out.below hb (by omega))
          replace g1 := Lib.hid (g1.out.below hb (by omega))
          replace j1 := Lib.hid (j1.out.below hb (by omega))
          have swd := hb.size
          clear hb
          go_wp2
          go_roundw
          case rel => exact ⟨k + 1, by omega, by go_num, Ewd⟩
          case measure => first | (simp [intOf]; done) | (simp [intOf]; omega)
        · have hck : ¬ cd = k := by omega
          go_wp2_with fail
          refine (to_ds (DecodeSome_any (m := zm) (f := fd) (goneV d1.out (Nat.le_refl _) _) (by omega) (by omega) TB.out) C2.out).mono ?_
          rintro e wb ⟨Ag, ng, cg, rfl, hcg, hb, hl⟩
          have Ewb : Hid (Below w4.heap.size w4 wb) := below_step hb Ewa.out (by omega)
          replace TB := Lib.hid (TB.out.below hb (by omega))
          replace d1 := Lib.hid (d1.out.below hb (by omega))
          replace o1 := Lib.hid (o1.out.below hb (by omega))
          replace f1 := Lib.hid (f1.out.below hb (by omega))
          have swb := hb.size
          have g1 := Lib.hid hl
          clear hb hl
          have hng : ng ≤ 1048576 := by have := g1.out.len; omega
          go_wp2_with fail
          refine (to_listN (join_any f1.out g1.out (by omega) (by omega) (by omega) (by omega)) C3.out).mono ?_
          rintro e wc ⟨Aj, nj, cj, rfl, hcj, hb, hl⟩
          have Ewc : Hid (Below w4.heap.size w4 wc) := below_step hb Ewb.out (by omega)
          replace TB := Lib.hid (TB.out.below hb (by omega))
          replace d1 := Lib.hid (d1.out.below hb (by omega))
          replace o1 := Lib.hid (o1.out.below hb (by omega))
          replace f1 := Lib.hid (f1.out.below hb (by omega))
          replace g1 := Lib.hid (g1.out.below hb (by omega))
          have swc := hb.size
          have j1 := Lib.hid hl
          clear hb hl
          go_wp2_with fail
          refine (equalInts_same j1.out o1.out rfl).mono ?_
          rintro e wd ⟨rfl, hb⟩
          have Ewd : Hid (Below w4.heap.size w4 wd) := below_step hb Ewc.out (by omega)
          replace TB := Lib.hid (TB.out.below hb (by omega))
          replace d1 := Lib.hid (d1.out.below hb (by omega))
          replace o1 := Lib.hid (o1.out.below hb (by omega))
          replace f1 := Lib.hid (f1.out.below hb (by omega))
          replace g1 := Lib.hid (g1.out.below hb (by omega))
          replace j1 := Lib.hid (j1.out.below hb (by omega))
          have swd := hb.size
          clear hb
          go_wp2
          go_roundw
          case rel => exact ⟨k + 1, by omega, by go_num, Ewd⟩
          case measure => first | (simp [intOf]; done) | (simp [intOf]; omega)
      · cases fd
        · go_wp2
          go_ret
          exact ⟨rfl, below_step HBR.out EB.out (by omega)⟩
        · obtain rfl := HW0.out rfl
          go_wp2
          go_ret
          exact ⟨rfl, below_step HBR.out EB.out (by omega)⟩
theorem contract (H : Type) (enc : TypeId × Value → H) (W : World) (base : Nat) (args : Array Value) (ds gs : List (DataW H)) (before : List MemPlace)
    (hval : ∀ (j : Nat) t v, Tryd.f5.params[j]? = some t → args[j]? = some v → Value.okWide Tryd.prog W .any base t v)
    (hW : DataW.Whole enc Tryd.prog Tryd.f5.params.toList Rows.fnDecodeSomeSpec.vars false W args.toList ds gs before) (hL : laidMetH Tryd.prog laidT W) :
    Calls Tryd.prog 5 args W fun e W' => ∃ v, e = .returned v ∧ Rows.fnDecodeSomeSpec.post enc Tryd.prog Tryd.f5 false true false false W args v W' := by
  have hW' := hW
  have hlt : ∀ p ∈ before, p.block < W.heap.size := fun p hp => hW.lt p hp
  obtain ⟨p, q, hA0, hV0, rfl, hfz, hnd⟩ := hW
  have hA : DataW.TrodAll enc Tryd.prog W 0 (fun _ => true) true Tryd.f5.params.toList args.toList ds p := hA0
  have hV : DataW.TrodVars enc Tryd.prog W (fun _ => true) ["loop.example/streamlayers/impl.borders"] gs q := hV0
  rw [Tryd.params5] at hA hval
  obtain ⟨v0, vs0, d0, ds0, p0, q0, hargs, rfl, rfl, h0, r0⟩ := trodAll_cons hA
  obtain ⟨rfl, rfl, rfl⟩ := trodAll_nil r0
  obtain rfl : args = #[v0] := by cases args; simp_all
  obtain ⟨hv, hT⟩ := tab_gives hL
  have lt := hT.lt
  have vr : ∀ {X : World}, Below W.heap.size W X → ∀ sp : Nat → Bool, DataW.TrodVars enc Tryd.prog X sp ["loop.example/streamlayers/impl.borders"] [tabD] (MemPlace.row ⟨0, 0, none⟩ 10) := fun hb sp => tab_read enc (var?_below hb (by kernel_rfl) lt hv) sp
  obtain ⟨rfl, rfl⟩ := hV.unique (vr (Below.refl _ _) _)
  obtain ⟨A, n, c, rfl, hnc, hby, hmx⟩ := arg_bytes (hval 0 _ v0 rfl rfl) h0 (fun p hp => hlt p (by simp [hp]))
  refine (walk A n c W hby hnc hmx hT).mono fun e W' hh => ?_
  obtain ⟨rfl, hb⟩ := hh
  exact ⟨_, rfl, law_postT laidOut (tys_of (by rw [Tryd.params5]; kernel_rfl)) hW' (fun sp => vr hb sp) rfl rfl Tryd.underlying4 hb⟩

set_option maxRecDepth 100000 in
theorem lifted (os : Os) (started : os.Started) (H : Type) (enc : TypeId × Value → H) :
    ReturnsInHanded {} Tryd.checked os 5 .any (fun w args => (Rows.fnDecodeSomeSpec.pre enc Tryd.prog Tryd.f5 [] false w args ∧ laidMetH Tryd.prog laidT w) ∧ sizedMet enc Tryd.prog Tryd.f5 (OpenSpec.ofChange Rows.fnDecodeSomeSpec) false w args) (Rows.fnDecodeSomeSpec.post enc Tryd.prog Tryd.f5 false true false false) := by
  refine returnsInHanded_of_change_and (C := Tryd.checked) (X := fun w _ => laidMetH Tryd.prog laidT w) (fun _ _ _ hh h => h.of_heap hh) own started (by kernel_rfl) Tryd.func5
    (ChangeSpec.witness_shaped (enc := enc) (C := Tryd.checked) (os := os) (X := fun w _ => laidMetH Tryd.prog laidT w) false (World.doorLaid Tryd.prog 19 os) #[.slice none 0 0] 8 rfl (World.shaped_of_RefB (by kernel_rfl) (by kernel_rfl)) (by kernel_rfl) (by kernel_rfl) (by kernel_rfl) (door_metT os _)) ?_
  intro W base args ds gs before hval hW _ _ hL _
  exact contract H enc W base args ds gs before hval hW hL

theorem row : Rows.FnDecodeSomeSaid :=
  OpenClaim.holds_of_wide 5 Tryd.f5 rfl rfl rfl rfl rfl rfl rfl ⟨rfl, rfl, rfl, rfl, rfl⟩ rfl rfl rfl rfl rfl (by kernel_rfl) Tryd.func5 (by kernel_rfl)
    (of_decide_eq_true (by kernel_rfl)) (by unfold Func.isWrapper; first | (rw [if_pos (by decide +kernel)]; kernel_rfl) | (rw [if_neg (by decide +kernel)]; exact ⟨rfl, rfl⟩))
    (fun os started H enc _ => lifted os started H enc)

theorem holds : Rows.FnDecodeSomeCardSaid :=
  Claim7.holds_tied_plain_at .later [] [.data] true _ false
    row (fun _ h => by cases h) (by kernel_rfl) (fun _ h => by cases h) fnDecodeSome_row_tie rfl ⟨rfl, rfl⟩ (by kernel_rfl) rfl
    (fun f fn hf hfn => by
      obtain rfl : f = 5 := Option.some.inj ((show Tryd.prog.funcNamed "loop.example/streamlayers/laws.FnDecodeSome" = some 5 by kernel_rfl).symm.trans hf) |>.symm
      obtain rfl : fn = Tryd.f5 := (Option.some.inj (Tryd.func5.symm.trans hfn)).symm
      exact ⟨by kernel_rfl, fun j t ht => by
        have hm : t ∈ Tryd.f5.params.toList := Array.mem_toList_iff.2 (Array.mem_of_getElem? ht)
        have hall : (Tryd.f5.params.toList.all fun t => !(Tryd.prog.wantsStandIn t)) = true := by kernel_rfl
        have h9 := List.all_eq_true.1 hall t hm
        show Tryd.prog.wantsStandIn t = false
        simpa using h9⟩)
    (by kernel_rfl)
end LawDecodeSome
end Go.Proofs.YtkgjcoakeliocaaDoor
