/- The law of promise 59: points written as bytes come back, if none stands for a wrong byte. No conditions. -/
import Derived.Test.YtkgjcoakeliocaaDoorR1
import Derived.Test.YtkgjcoakeliocaaDoorR2
import Derived.Test.YtkgjcoakeliocaaDoorVB
import Derived.Test.YtkgjcoakeliocaaDoorG1
import Derived.Test.YtkgjcoakeliocaaDoorCards
import Derived.Test.YtkgjcoakeliocaaDoorTie
set_option maxRecDepth 10000
namespace Go.Proofs.YtkgjcoakeliocaaDoor
open Go.ChangeShapes Go.WideShapes Go.ChangeAt Go.RowKit
set_option linter.unusedSimpArgs false
set_option linter.unusedVariables false
namespace LawEncodePoints
set_option maxHeartbeats 8000000 in
theorem walk (A : Option Addr) (n c : Nat) (w : World) (h : BytesIn w w.heap.size A n) (hnc : n ≤ c) (hm : n ≤ 9223372036854775807) (HT : Tab w) :
    Calls Tryd.prog 4 #[.slice A n c] w (BoolB true w) := by
  have HBY := Lib.hid h
  clear h
  have EB := Lib.hid (Below.refl w.heap.size w)
  have tl := HT.lt
  have TB : Hid (Box w 0 tabL) := HT
  clear HT
  by_cases hbig : (1048576 : Int) < (n : Int)
  · go_enter Tryd.func4, Tryd.ntmps4
    go_wp2
    go_ret
    exact ⟨rfl, Below.refl _ _⟩
  go_enter Tryd.func4, Tryd.ntmps4
  go_wp2_with fail
  refine (DrawEncodePoints_any HBY.out (by omega) hnc).mono ?_
  rintro e w1 ⟨Ad, nd, cd, Dd, rfl, hcd, hnd, hb, hl⟩
  (try simp only [World.size_alloc, World.size_setCell, World.size_drew] at hb)
  have HB := Lib.hid hb
  clear hb
  have s1 := HB.out.size
  (try simp only [World.size_alloc, World.size_setCell, World.size_drew] at s1)
  replace TB := Lib.hid (TB.out.below HB.out (by omega))
  replace EB := Lib.hid (below_step HB.out EB.out (by omega))
  clear HB
  have d1 := Lib.hid hl
  clear hl HBY
  cases hv : ptsB Dd
  · have HNO := Lib.hid (encOut_no hv)
    go_wp2_with fail
    refine (to_listN (EncodePoints_any d1.out (by omega) TB.out) HNO.out).mono ?_
    rintro e w2 ⟨Ao, no, co, rfl, hco, hb, hl⟩
    (try simp only [World.size_alloc, World.size_setCell, World.size_drew] at hb)
    have HB := Lib.hid hb
    clear hb
    have s2 := HB.out.size
    (try simp only [World.size_alloc, World.size_setCell, World.size_drew] at s2)
    replace TB := Lib.hid (TB.out.below HB.out (by omega))
    replace d1 := Lib.hid (d1.out.below HB.out (by omega))
    replace EB := Lib.hid (below_step HB.out EB.out (by omega))
    clear HB
    have o1 := Lib.hid hl
    clear hl
    go_wp2_with fail
    refine (to_listN (SEncodePoints_any d1.out (by omega)) HNO.out).mono ?_
    rintro e w3 ⟨As, ns, cs, rfl, hcs, hb, hl⟩
    (try simp only [World.size_alloc, World.size_setCell, World.size_drew] at hb)
    have HB := Lib.hid hb
    clear hb
    have s3 := HB.out.size
    (try simp only [World.size_alloc, World.size_setCell, World.size_drew] at s3)
    replace TB := Lib.hid (TB.out.below HB.out (by omega))
    replace d1 := Lib.hid (d1.out.below HB.out (by omega))
    replace o1 := Lib.hid (o1.out.below HB.out (by omega))
    replace EB := Lib.hid (below_step HB.out EB.out (by omega))
    clear HB
    have s1 := Lib.hid hl
    clear hl
    go_wp2_with fail
    refine (equalInts_same o1.out s1.out rfl).mono ?_
    rintro e w4 ⟨rfl, hb⟩
    (try simp only [World.size_alloc, World.size_setCell, World.size_drew] at hb)
    have HB := Lib.hid hb
    clear hb
    have s4 := HB.out.size
    (try simp only [World.size_alloc, World.size_setCell, World.size_drew] at s4)
    replace TB := Lib.hid (TB.out.below HB.out (by omega))
    replace d1 := Lib.hid (d1.out.below HB.out (by omega))
    replace o1 := Lib.hid (o1.out.below HB.out (by omega))
    replace s1 := Lib.hid (s1.out.below HB.out (by omega))
    replace EB := Lib.hid (below_step HB.out EB.out (by omega))
    clear HB
    have hno : no = 0 := o1.out.len
    subst hno
    go_wp2_with fail
    refine (to_listN (SEncodePoints_any d1.out (by omega)) HNO.out).mono ?_
    rintro e w5 ⟨At, nt, ct, rfl, hct, hb, hl⟩
    (try simp only [World.size_alloc, World.size_setCell, World.size_drew] at hb)
    have HB := Lib.hid hb
    clear hb
    have s5 := HB.out.size
    (try simp only [World.size_alloc, World.size_setCell, World.size_drew] at s5)
    replace TB := Lib.hid (TB.out.below HB.out (by omega))
    replace d1 := Lib.hid (d1.out.below HB.out (by omega))
    replace o1 := Lib.hid (o1.out.below HB.out (by omega))
    replace s1 := Lib.hid (s1.out.below HB.out (by omega))
    replace EB := Lib.hid (below_step HB.out EB.out (by omega))
    clear HB
    have t1 := Lib.hid hl
    clear hl
    go_wp2_with fail
    refine (equalInts_same o1.out t1.out rfl).mono ?_
    rintro e w6 ⟨rfl, hb⟩
    (try simp only [World.size_alloc, World.size_setCell, World.size_drew] at hb)
    have HB := Lib.hid hb
    clear hb
    have s6 := HB.out.size
    (try simp only [World.size_alloc, World.size_setCell, World.size_drew] at s6)
    replace TB := Lib.hid (TB.out.below HB.out (by omega))
    replace d1 := Lib.hid (d1.out.below HB.out (by omega))
    replace o1 := Lib.hid (o1.out.below HB.out (by omega))
    replace s1 := Lib.hid (s1.out.below HB.out (by omega))
    replace t1 := Lib.hid (t1.out.below HB.out (by omega))
    replace EB := Lib.hid (below_step HB.out EB.out (by omega))
    clear HB
    go_wp2
    go_ret
    exact ⟨rfl, EB.out⟩
  · have HYE := Lib.hid (encOut_yes hv)
    have hpa := ptsB_all hv
    go_wp2_with fail
    refine (to_listN (EncodePoints_any d1.out (by omega) TB.out) HYE.out).mono ?_
    rintro e w2 ⟨Ao, no, co, rfl, hco, hb, hl⟩
    (try simp only [World.size_alloc, World.size_setCell, World.size_drew] at hb)
    have HB := Lib.hid hb
    clear hb
    have s2 := HB.out.size
    (try simp only [World.size_alloc, World.size_setCell, World.size_drew] at s2)
    replace TB := Lib.hid (TB.out.below HB.out (by omega))
    replace d1 := Lib.hid (d1.out.below HB.out (by omega))
    replace EB := Lib.hid (below_step HB.out EB.out (by omega))
    clear HB
    have o1 := Lib.hid hl
    clear hl
    go_wp2_with fail
    refine (to_listN (SEncodePoints_any d1.out (by omega)) HYE.out).mono ?_
    rintro e w3 ⟨As, ns, cs, rfl, hcs, hb, hl⟩
    (try simp only [World.size_alloc, World.size_setCell, World.size_drew] at hb)
    have HB := Lib.hid hb
    clear hb
    have s3 := HB.out.size
    (try simp only [World.size_alloc, World.size_setCell, World.size_drew] at s3)
    replace TB := Lib.hid (TB.out.below HB.out (by omega))
    replace d1 := Lib.hid (d1.out.below HB.out (by omega))
    replace o1 := Lib.hid (o1.out.below HB.out (by omega))
    replace EB := Lib.hid (below_step HB.out EB.out (by omega))
    clear HB
    have s1 := Lib.hid hl
    clear hl
    go_wp2_with fail
    refine (equalInts_same o1.out s1.out rfl).mono ?_
    rintro e w4 ⟨rfl, hb⟩
    (try simp only [World.size_alloc, World.size_setCell, World.size_drew] at hb)
    have HB := Lib.hid hb
    clear hb
    have s4 := HB.out.size
    (try simp only [World.size_alloc, World.size_setCell, World.size_drew] at s4)
    replace TB := Lib.hid (TB.out.below HB.out (by omega))
    replace d1 := Lib.hid (d1.out.below HB.out (by omega))
    replace o1 := Lib.hid (o1.out.below HB.out (by omega))
    replace s1 := Lib.hid (s1.out.below HB.out (by omega))
    replace EB := Lib.hid (below_step HB.out EB.out (by omega))
    clear HB
    by_cases h0 : no = 0
    · subst h0
      go_wp2_with fail
      refine (to_listN (SEncodePoints_any d1.out (by omega)) HYE.out).mono ?_
      rintro e w5 ⟨At, nt, ct, rfl, hct, hb, hl⟩
      (try simp only [World.size_alloc, World.size_setCell, World.size_drew] at hb)
      have HB := Lib.hid hb
      clear hb
      have s5 := HB.out.size
      (try simp only [World.size_alloc, World.size_setCell, World.size_drew] at s5)
      replace TB := Lib.hid (TB.out.below HB.out (by omega))
      replace d1 := Lib.hid (d1.out.below HB.out (by omega))
      replace o1 := Lib.hid (o1.out.below HB.out (by omega))
      replace s1 := Lib.hid (s1.out.below HB.out (by omega))
      replace EB := Lib.hid (below_step HB.out EB.out (by omega))
      clear HB
      have t1 := Lib.hid hl
      clear hl
      go_wp2_with fail
      refine (equalInts_same o1.out t1.out rfl).mono ?_
      rintro e w6 ⟨rfl, hb⟩
      (try simp only [World.size_alloc, World.size_setCell, World.size_drew] at hb)
      have HB := Lib.hid hb
      clear hb
      have s6 := HB.out.size
      (try simp only [World.size_alloc, World.size_setCell, World.size_drew] at s6)
      replace TB := Lib.hid (TB.out.below HB.out (by omega))
      replace d1 := Lib.hid (d1.out.below HB.out (by omega))
      replace o1 := Lib.hid (o1.out.below HB.out (by omega))
      replace s1 := Lib.hid (s1.out.below HB.out (by omega))
      replace t1 := Lib.hid (t1.out.below HB.out (by omega))
      replace EB := Lib.hid (below_step HB.out EB.out (by omega))
      clear HB
      go_wp2
      go_ret
      exact ⟨rfl, EB.out⟩
    · have hz : ((no : Int) == 0) = false := by simp; omega
      by_cases h60 : (60 : Int) < (no : Int)
      · go_wp2_with fail
        refine (to_listN (SEncodePoints_any d1.out (by omega)) HYE.out).mono ?_
        rintro e w5 ⟨At, nt, ct, rfl, hct, hb, hl⟩
        (try simp only [World.size_alloc, World.size_setCell, World.size_drew] at hb)
        have HB := Lib.hid hb
        clear hb
        have s5 := HB.out.size
        (try simp only [World.size_alloc, World.size_setCell, World.size_drew] at s5)
        replace TB := Lib.hid (TB.out.below HB.out (by omega))
        replace d1 := Lib.hid (d1.out.below HB.out (by omega))
        replace o1 := Lib.hid (o1.out.below HB.out (by omega))
        replace s1 := Lib.hid (s1.out.below HB.out (by omega))
        replace EB := Lib.hid (below_step HB.out EB.out (by omega))
        clear HB
        have t1 := Lib.hid hl
        clear hl
        go_wp2_with fail
        refine (equalInts_same o1.out t1.out rfl).mono ?_
        rintro e w6 ⟨rfl, hb⟩
        (try simp only [World.size_alloc, World.size_setCell, World.size_drew] at hb)
        have HB := Lib.hid hb
        clear hb
        have s6 := HB.out.size
        (try simp only [World.size_alloc, World.size_setCell, World.size_drew] at s6)
        replace TB := Lib.hid (TB.out.below HB.out (by omega))
        replace d1 := Lib.hid (d1.out.below HB.out (by omega))
        replace o1 := Lib.hid (o1.out.below HB.out (by omega))
        replace s1 := Lib.hid (s1.out.below HB.out (by omega))
        replace t1 := Lib.hid (t1.out.below HB.out (by omega))
        replace EB := Lib.hid (below_step HB.out EB.out (by omega))
        clear HB
        go_wp2
        go_ret
        exact ⟨rfl, EB.out⟩
      · have hbe : bytesB (encL Dd) = true := encL_bytes hpa.2 (by have := o1.out.len; omega)
        have HBE := Lib.hid hbe; have HPA := Lib.hid hpa; have HLD := Lib.hid d1.out.len
        clear hbe hpa h0
        go_wp2_with fail
        go_loop [5] (fun i => ∃ k : Nat, k ≤ nd ∧ i = .int .i64 k ∧ Hid (∀ p ∈ Dd.take k, ¬ 2047 < p)) (fun i => nd - (intOf i).toNat)
        case atStart => exact ⟨0, Nat.zero_le _, rfl, fun p hp => by simp at hp⟩
        case round =>
          obtain ⟨k, hk, rfl, hall⟩ := hrel
          by_cases hlt : k < nd
          · obtain ⟨b, o, x, rfl, _, hc, hx⟩ := d1.out.at_ hlt
            by_cases hx2 : 2047 < x
            · go_wp2
              go_ret
              exact ⟨rfl, EB.out⟩
            · have HN : Hid (∀ p ∈ Dd.take (k + 1), ¬ 2047 < p) := by show ∀ p ∈ Dd.take (k + 1), ¬ 2047 < p; intro p hp; rw [take_snoc hx.out] at hp; rcases List.mem_append.1 hp with hp | hp; exact hall.out p hp; simp at hp; subst hp; exact hx2
              go_wp2
              go_round
              case rel => exact ⟨k + 1, by omega, by go_num, HN⟩
              case measure => simp [intOf]; omega
          · obtain rfl : nd = k := by omega
            have hlow : ∀ p ∈ Dd, ¬ 2047 < p := by have h1 := hall.out; rw [List.take_of_length_le (by have := HLD.out; omega)] at h1; exact h1
            have hraw : rawP (encL Dd) = Dd := raw_enc (fun p hp => by have h1 := hlow p hp; have h2 := ptB_in (HPA.out.2 p hp); omega)
            have HF := Lib.hid (db_at HBE.out (m := 0) (L := Dd) (b := true) rfl (by unfold decB; rw [hraw]; exact decP_low hlow))
            have HG : Hid (bdOut (encL Dd) = -1) := (bdOut_yes HBE.out).trans (bdL_low (by rw [hraw]; exact hlow))
            clear hlow hraw hall
            go_wp2_with fail
            refine (to_lb (DecodeBytes_any (m := 0) o1.out (by omega) hco TB.out) HF.out).mono ?_
            rintro e w5 ⟨Af, nf, cf, rfl, hcf, hb, hl⟩
            (try simp only [World.size_alloc, World.size_setCell, World.size_drew] at hb)
            have HB := Lib.hid hb
            clear hb
            have s5 := HB.out.size
            (try simp only [World.size_alloc, World.size_setCell, World.size_drew] at s5)
            replace TB := Lib.hid (TB.out.below HB.out (by omega))
            replace d1 := Lib.hid (d1.out.below HB.out (by omega))
            replace o1 := Lib.hid (o1.out.below HB.out (by omega))
            replace s1 := Lib.hid (s1.out.below HB.out (by omega))
            replace EB := Lib.hid (below_step HB.out EB.out (by omega))
            clear HB
            have f1 := Lib.hid hl
            clear hl
            go_wp2_with fail
            refine (equalInts_same f1.out d1.out rfl).mono ?_
            rintro e w6 ⟨rfl, hb⟩
            (try simp only [World.size_alloc, World.size_setCell, World.size_drew] at hb)
            have HB := Lib.hid hb
            clear hb
            have s6 := HB.out.size
            (try simp only [World.size_alloc, World.size_setCell, World.size_drew] at s6)
            replace TB := Lib.hid (TB.out.below HB.out (by omega))
            replace d1 := Lib.hid (d1.out.below HB.out (by omega))
            replace o1 := Lib.hid (o1.out.below HB.out (by omega))
            replace s1 := Lib.hid (s1.out.below HB.out (by omega))
            replace f1 := Lib.hid (f1.out.below HB.out (by omega))
            replace EB := Lib.hid (below_step HB.out EB.out (by omega))
            clear HB
            go_wp2_with fail
            refine (to_intN (BadAt_any o1.out (by omega) hco TB.out) HG.out).mono ?_
            rintro e w7 ⟨rfl, hb⟩
            (try simp only [World.size_alloc, World.size_setCell, World.size_drew] at hb)
            have HB := Lib.hid hb
            clear hb
            have s7 := HB.out.size
            (try simp only [World.size_alloc, World.size_setCell, World.size_drew] at s7)
            replace TB := Lib.hid (TB.out.below HB.out (by omega))
            replace d1 := Lib.hid (d1.out.below HB.out (by omega))
            replace o1 := Lib.hid (o1.out.below HB.out (by omega))
            replace s1 := Lib.hid (s1.out.below HB.out (by omega))
            replace f1 := Lib.hid (f1.out.below HB.out (by omega))
            replace EB := Lib.hid (below_step HB.out EB.out (by omega))
            clear HB
            go_wp2
            go_ret
            exact ⟨rfl, EB.out⟩
theorem contract (H : Type) (enc : TypeId × Value → H) (W : World) (base : Nat) (args : Array Value) (ds gs : List (DataW H)) (before : List MemPlace)
    (hval : ∀ (j : Nat) t v, Tryd.f4.params[j]? = some t → args[j]? = some v → Value.okWide Tryd.prog W .any base t v)
    (hW : DataW.Whole enc Tryd.prog Tryd.f4.params.toList Rows.fnEncodePointsSpec.vars false W args.toList ds gs before) (hL : laidMetH Tryd.prog laidT W) :
    Calls Tryd.prog 4 args W fun e W' => ∃ v, e = .returned v ∧ Rows.fnEncodePointsSpec.post enc Tryd.prog Tryd.f4 false true false false W args v W' := by
  have hW' := hW
  have hlt : ∀ p ∈ before, p.block < W.heap.size := fun p hp => hW.lt p hp
  obtain ⟨p, q, hA0, hV0, rfl, hfz, hnd⟩ := hW
  have hA : DataW.TrodAll enc Tryd.prog W 0 (fun _ => true) true Tryd.f4.params.toList args.toList ds p := hA0
  have hV : DataW.TrodVars enc Tryd.prog W (fun _ => true) ["loop.example/streamlayers/impl.borders"] gs q := hV0
  rw [Tryd.params4] at hA hval
  obtain ⟨v0, vs0, d0, ds0, p0, q0, hargs, rfl, rfl, h0, r0⟩ := trodAll_cons hA
  obtain ⟨rfl, rfl, rfl⟩ := trodAll_nil r0
  obtain rfl : args = #[v0] := by cases args; simp_all
  obtain ⟨hv, hT⟩ := tab_gives hL
  have lt := hT.lt
  have vr : ∀ {X : World}, Below W.heap.size W X → ∀ sp : Nat → Bool, DataW.TrodVars enc Tryd.prog X sp ["loop.example/streamlayers/impl.borders"] [tabD] (MemPlace.row ⟨0, 0, none⟩ 10) := fun hb sp => tab_read enc (var?_below hb (by kernel_rfl) lt hv) sp
  obtain ⟨rfl, rfl⟩ := hV.unique (vr (Below.refl _ _) _)
  obtain ⟨A, n, c, rfl, hnc, hby, hmx⟩ := arg_bytes (hval 0 _ v0 rfl rfl) h0 (fun p hp => hlt p (by simp [hp]))
  refine (walk A n c W hby hnc hmx hT).mono fun e W' hh => ?_
  obtain ⟨rfl, hb⟩ := hh
  exact ⟨_, rfl, law_postT laidOut (tys_of (by rw [Tryd.params4]; kernel_rfl)) hW' (fun sp => vr hb sp) rfl rfl Tryd.underlying4 hb⟩

set_option maxRecDepth 100000 in
theorem lifted (os : Os) (started : os.Started) (H : Type) (enc : TypeId × Value → H) :
    ReturnsInHanded {} Tryd.checked os 4 .any (fun w args => (Rows.fnEncodePointsSpec.pre enc Tryd.prog Tryd.f4 [] false w args ∧ laidMetH Tryd.prog laidT w) ∧ sizedMet enc Tryd.prog Tryd.f4 (OpenSpec.ofChange Rows.fnEncodePointsSpec) false w args) (Rows.fnEncodePointsSpec.post enc Tryd.prog Tryd.f4 false true false false) := by
  refine returnsInHanded_of_change_and (C := Tryd.checked) (X := fun w _ => laidMetH Tryd.prog laidT w) (fun _ _ _ hh h => h.of_heap hh) own started (by kernel_rfl) Tryd.func4
    (ChangeSpec.witness_shaped (enc := enc) (C := Tryd.checked) (os := os) (X := fun w _ => laidMetH Tryd.prog laidT w) false (World.doorLaid Tryd.prog 19 os) #[.slice none 0 0] 8 rfl (World.shaped_of_RefB (by kernel_rfl) (by kernel_rfl)) (by kernel_rfl) (by kernel_rfl) (by kernel_rfl) (door_metT os _)) ?_
  intro W base args ds gs before hval hW _ _ hL _
  exact contract H enc W base args ds gs before hval hW hL

theorem row : Rows.FnEncodePointsSaid :=
  OpenClaim.holds_of_wide 4 Tryd.f4 rfl rfl rfl rfl rfl rfl rfl ⟨rfl, rfl, rfl, rfl, rfl⟩ rfl rfl rfl rfl rfl (by kernel_rfl) Tryd.func4 (by kernel_rfl)
    (of_decide_eq_true (by kernel_rfl)) (by unfold Func.isWrapper; first | (rw [if_pos (by decide +kernel)]; kernel_rfl) | (rw [if_neg (by decide +kernel)]; exact ⟨rfl, rfl⟩))
    (fun os started H enc _ => lifted os started H enc)

theorem holds : Rows.FnEncodePointsCardSaid :=
  Claim7.holds_tied_plain_at .later [] [.data] true _ false
    row (fun _ h => by cases h) (by kernel_rfl) (fun _ h => by cases h) fnEncodePoints_row_tie rfl ⟨rfl, rfl⟩ (by kernel_rfl) rfl
    (fun f fn hf hfn => by
      obtain rfl : f = 4 := Option.some.inj ((show Tryd.prog.funcNamed "loop.example/streamlayers/laws.FnEncodePoints" = some 4 by kernel_rfl).symm.trans hf) |>.symm
      obtain rfl : fn = Tryd.f4 := (Option.some.inj (Tryd.func4.symm.trans hfn)).symm
      exact ⟨by kernel_rfl, fun j t ht => by
        have hm : t ∈ Tryd.f4.params.toList := Array.mem_toList_iff.2 (Array.mem_of_getElem? ht)
        have hall : (Tryd.f4.params.toList.all fun t => !(Tryd.prog.wantsStandIn t)) = true := by kernel_rfl
        have h9 := List.all_eq_true.1 hall t hm
        show Tryd.prog.wantsStandIn t = false
        simpa using h9⟩)
    (by kernel_rfl)
end LawEncodePoints
end Go.Proofs.YtkgjcoakeliocaaDoor
