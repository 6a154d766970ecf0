/- The law of promise 61: a byte that waits is as one ahead of the bytes. No conditions. -/
import Derived.Test.YtkgjcoakeliocaaDoorR1
import Derived.Test.YtkgjcoakeliocaaDoorR2
import Derived.Test.YtkgjcoakeliocaaDoorVB
import Derived.Test.YtkgjcoakeliocaaDoorG1
import Derived.Test.YtkgjcoakeliocaaDoorCards
import Derived.Test.YtkgjcoakeliocaaDoorTie
set_option maxRecDepth 10000
namespace Go.Proofs.YtkgjcoakeliocaaDoor
open Go.ChangeShapes Go.WideShapes Go.ChangeAt Go.RowKit
set_option linter.unusedSimpArgs false
set_option linter.unusedVariables false
namespace LawDecodeSomeLead
set_option maxHeartbeats 8000000 in
theorem walk (A : Option Addr) (n c : Nat) (w : World) (h : BytesIn w w.heap.size A n) (hnc : n ≤ c) (hm : n ≤ 9223372036854775807) (HT : Tab w) :
    Calls Tryd.prog 6 #[.slice A n c] w (BoolB true w) := by
  have HBY := Lib.hid h
  clear h
  have EB := Lib.hid (Below.refl w.heap.size w)
  have tl := HT.lt
  have TB : Hid (Box w 0 tabL) := HT
  clear HT
  by_cases hbig : (1048576 : Int) < (n : Int)
  · go_enter Tryd.func6, Tryd.ntmps6
    go_wp2
    go_ret
    exact ⟨rfl, Below.refl _ _⟩
  go_enter Tryd.func6, Tryd.ntmps6
  go_wp2_with fail
  refine (DrawDecodeSome_any HBY.out (by omega) hnc).mono ?_
  rintro e w1 ⟨Ad, nd, cd, Dd, zl, fd, zm, rfl, hcd, hnd, hb, hl, hzl, hzm⟩
  (try simp only [World.size_alloc, World.size_setCell, World.size_drew] at hb)
  have HB := Lib.hid hb
  clear hb
  have s1 := HB.out.size
  (try simp only [World.size_alloc, World.size_setCell, World.size_drew] at s1)
  replace TB := Lib.hid (TB.out.below HB.out (by omega))
  replace EB := Lib.hid (below_step HB.out EB.out (by omega))
  clear HB
  have d1 := Lib.hid hl
  clear hl HBY
  obtain ⟨L, wt, ok, hLW⟩ : ∃ L wt ok, dsR zm fd Dd zl = (L, wt, ok) := ⟨_, _, _, rfl⟩
  have HLW := Lib.hid hLW
  clear hLW
  cases ok
  · go_wp2_with fail
    refine (to_ds (DecodeSome_any (m := zm) (f := fd) d1.out (by omega) hcd TB.out) HLW.out).mono ?_
    rintro e w2 ⟨Ao, no, co, rfl, hco, hb, hl⟩
    (try simp only [World.size_alloc, World.size_setCell, World.size_drew] at hb)
    have HB := Lib.hid hb
    clear hb
    have s2 := HB.out.size
    (try simp only [World.size_alloc, World.size_setCell, World.size_drew] at s2)
    replace TB := Lib.hid (TB.out.below HB.out (by omega))
    replace d1 := Lib.hid (d1.out.below HB.out (by omega))
    replace EB := Lib.hid (below_step HB.out EB.out (by omega))
    clear HB
    have o1 := Lib.hid hl
    clear hl
    go_wp2_with fail
    refine (to_ds (SDecodeSome_any (m := zm) (f := fd) d1.out (by omega)) HLW.out).mono ?_
    rintro e w3 ⟨As, ns, cs, rfl, hcs, hb, hl⟩
    (try simp only [World.size_alloc, World.size_setCell, World.size_drew] at hb)
    have HB := Lib.hid hb
    clear hb
    have s3 := HB.out.size
    (try simp only [World.size_alloc, World.size_setCell, World.size_drew] at s3)
    replace TB := Lib.hid (TB.out.below HB.out (by omega))
    replace d1 := Lib.hid (d1.out.below HB.out (by omega))
    replace o1 := Lib.hid (o1.out.below HB.out (by omega))
    replace EB := Lib.hid (below_step HB.out EB.out (by omega))
    clear HB
    have s1 := Lib.hid hl
    clear hl
    go_wp2_with fail
    refine (equalInts_same o1.out s1.out rfl).mono ?_
    rintro e w4 ⟨rfl, hb⟩
    (try simp only [World.size_alloc, World.size_setCell, World.size_drew] at hb)
    have HB := Lib.hid hb
    clear hb
    have s4 := HB.out.size
    (try simp only [World.size_alloc, World.size_setCell, World.size_drew] at s4)
    replace TB := Lib.hid (TB.out.below HB.out (by omega))
    replace d1 := Lib.hid (d1.out.below HB.out (by omega))
    replace o1 := Lib.hid (o1.out.below HB.out (by omega))
    replace s1 := Lib.hid (s1.out.below HB.out (by omega))
    replace EB := Lib.hid (below_step HB.out EB.out (by omega))
    clear HB
    go_wp2_with fail
    refine (equalInts_same o1.out s1.out rfl).mono ?_
    rintro e w5 ⟨rfl, hb⟩
    (try simp only [World.size_alloc, World.size_setCell, World.size_drew] at hb)
    have HB := Lib.hid hb
    clear hb
    have s5 := HB.out.size
    (try simp only [World.size_alloc, World.size_setCell, World.size_drew] at s5)
    replace TB := Lib.hid (TB.out.below HB.out (by omega))
    replace d1 := Lib.hid (d1.out.below HB.out (by omega))
    replace o1 := Lib.hid (o1.out.below HB.out (by omega))
    replace s1 := Lib.hid (s1.out.below HB.out (by omega))
    replace EB := Lib.hid (below_step HB.out EB.out (by omega))
    clear HB
    go_wp2
    go_ret
    exact ⟨rfl, EB.out⟩
  · have hok : dsOk Dd zl zm = true := by cases e : dsOk Dd zl zm with | true => rfl | false => have h1 := HLW.out; rw [ds_no e] at h1; injection h1 with _ h1; injection h1 with _ h1
    have hsm : sm zm fd Dd zl = (L, wt, true) := (ds_yes hok).symm.trans HLW.out
    have hLd := d1.out.len
    by_cases h0 : zl = 0
    · subst h0
      have hLn : L.length ≤ 60 := by have h1 := sm_len0 zm fd Dd; rw [hsm] at h1; have : L.length ≤ Dd.length := h1; omega
      have HV : Hid (ptsB L = true) := ptsB_of hLn (by have h1 := sm_pt (m := zm) (f := fd) (dsOk_parts hok).1 (dsOk_parts hok).2.1; rw [hsm] at h1; exact h1)
      clear hok hsm hLn hLd
      go_wp2_with fail
      refine (to_ds (DecodeSome_any (m := zm) (f := fd) d1.out (by omega) hcd TB.out) HLW.out).mono ?_
      rintro e w2 ⟨Ao, no, co, rfl, hco, hb, hl⟩
      (try simp only [World.size_alloc, World.size_setCell, World.size_drew] at hb)
      have HB := Lib.hid hb
      clear hb
      have s2 := HB.out.size
      (try simp only [World.size_alloc, World.size_setCell, World.size_drew] at s2)
      replace TB := Lib.hid (TB.out.below HB.out (by omega))
      replace d1 := Lib.hid (d1.out.below HB.out (by omega))
      replace EB := Lib.hid (below_step HB.out EB.out (by omega))
      clear HB
      have o1 := Lib.hid hl
      clear hl
      go_wp2_with fail
      refine (to_ds (SDecodeSome_any (m := zm) (f := fd) d1.out (by omega)) HLW.out).mono ?_
      rintro e w3 ⟨As, ns, cs, rfl, hcs, hb, hl⟩
      (try simp only [World.size_alloc, World.size_setCell, World.size_drew] at hb)
      have HB := Lib.hid hb
      clear hb
      have s3 := HB.out.size
      (try simp only [World.size_alloc, World.size_setCell, World.size_drew] at s3)
      replace TB := Lib.hid (TB.out.below HB.out (by omega))
      replace d1 := Lib.hid (d1.out.below HB.out (by omega))
      replace o1 := Lib.hid (o1.out.below HB.out (by omega))
      replace EB := Lib.hid (below_step HB.out EB.out (by omega))
      clear HB
      have s1 := Lib.hid hl
      clear hl
      go_wp2_with fail
      refine (equalInts_same o1.out s1.out rfl).mono ?_
      rintro e w4 ⟨rfl, hb⟩
      (try simp only [World.size_alloc, World.size_setCell, World.size_drew] at hb)
      have HB := Lib.hid hb
      clear hb
      have s4 := HB.out.size
      (try simp only [World.size_alloc, World.size_setCell, World.size_drew] at s4)
      replace TB := Lib.hid (TB.out.below HB.out (by omega))
      replace d1 := Lib.hid (d1.out.below HB.out (by omega))
      replace o1 := Lib.hid (o1.out.below HB.out (by omega))
      replace s1 := Lib.hid (s1.out.below HB.out (by omega))
      replace EB := Lib.hid (below_step HB.out EB.out (by omega))
      clear HB
      go_wp2_with fail
      refine (to_pure (ValidPoints_any o1.out) HV.out).mono ?_
      rintro e w5 ⟨rfl, hb⟩
      (try simp only [World.size_alloc, World.size_setCell, World.size_drew] at hb)
      have HB := Lib.hid hb
      clear hb
      have s5 := HB.out.size
      (try simp only [World.size_alloc, World.size_setCell, World.size_drew] at s5)
      replace TB := Lib.hid (TB.out.below HB.out (by omega))
      replace d1 := Lib.hid (d1.out.below HB.out (by omega))
      replace o1 := Lib.hid (o1.out.below HB.out (by omega))
      replace s1 := Lib.hid (s1.out.below HB.out (by omega))
      replace EB := Lib.hid (below_step HB.out EB.out (by omega))
      clear HB
      go_wp2
      go_ret
      exact ⟨rfl, EB.out⟩
    · have hz0 : (zl == 0) = false := by simp [h0]
      have HC : Hid (dsR zm fd (zl :: Dd) 0 = (L, wt, true)) := (ds_cons hok h0 (by omega)).trans hsm
      have hn60 : ¬ (60 : Int) ≤ (nd : Int) := by omega
      clear hok hsm hLd h0
      go_wp2_with fail
      refine (to_ds (DecodeSome_any (m := zm) (f := fd) d1.out (by omega) hcd TB.out) HLW.out).mono ?_
      rintro e w2 ⟨Ao, no, co, rfl, hco, hb, hl⟩
      (try simp only [World.size_alloc, World.size_setCell, World.size_drew] at hb)
      have HB := Lib.hid hb
      clear hb
      have s2 := HB.out.size
      (try simp only [World.size_alloc, World.size_setCell, World.size_drew] at s2)
      replace TB := Lib.hid (TB.out.below HB.out (by omega))
      replace d1 := Lib.hid (d1.out.below HB.out (by omega))
      replace EB := Lib.hid (below_step HB.out EB.out (by omega))
      clear HB
      have o1 := Lib.hid hl
      clear hl
      go_wp2_with fail
      refine (to_ds (SDecodeSome_any (m := zm) (f := fd) d1.out (by omega)) HLW.out).mono ?_
      rintro e w3 ⟨As, ns, cs, rfl, hcs, hb, hl⟩
      (try simp only [World.size_alloc, World.size_setCell, World.size_drew] at hb)
      have HB := Lib.hid hb
      clear hb
      have s3 := HB.out.size
      (try simp only [World.size_alloc, World.size_setCell, World.size_drew] at s3)
      replace TB := Lib.hid (TB.out.below HB.out (by omega))
      replace d1 := Lib.hid (d1.out.below HB.out (by omega))
      replace o1 := Lib.hid (o1.out.below HB.out (by omega))
      replace EB := Lib.hid (below_step HB.out EB.out (by omega))
      clear HB
      have s1 := Lib.hid hl
      clear hl
      go_wp2_with fail
      refine (equalInts_same o1.out s1.out rfl).mono ?_
      rintro e w4 ⟨rfl, hb⟩
      (try simp only [World.size_alloc, World.size_setCell, World.size_drew] at hb)
      have HB := Lib.hid hb
      clear hb
      have s4 := HB.out.size
      (try simp only [World.size_alloc, World.size_setCell, World.size_drew] at s4)
      replace TB := Lib.hid (TB.out.below HB.out (by omega))
      replace d1 := Lib.hid (d1.out.below HB.out (by omega))
      replace o1 := Lib.hid (o1.out.below HB.out (by omega))
      replace s1 := Lib.hid (s1.out.below HB.out (by omega))
      replace EB := Lib.hid (below_step HB.out EB.out (by omega))
      clear HB
      go_wp2_with fail
      have J1 := lit1 w4 zl (by unfold okInt; omega)
      have s9 : w4.heap.size + 1 ≤ (w4.alloc (.cells #[.int .i64 zl] 3)).heap.size := by simp
      replace TB := Lib.hid (TB.out.alloc (.cells #[.int .i64 zl] 3))
      replace d1 := Lib.hid (d1.out.alloc (by omega) (.cells #[.int .i64 zl] 3))
      replace o1 := Lib.hid (o1.out.alloc (by omega) (.cells #[.int .i64 zl] 3))
      replace s1 := Lib.hid (s1.out.alloc (by omega) (.cells #[.int .i64 zl] 3))
      replace EB := Lib.hid (EB.out.alloc (by omega) (.cells #[.int .i64 zl] 3))
      generalize w4.alloc (.cells #[.int .i64 zl] 3) = w9 at *
      refine (to_listN (join_any J1 d1.out (by omega) (by omega) (by omega) (by omega)) (rfl : [zl] ++ Dd = zl :: Dd)).mono ?_
      rintro e w5 ⟨Aj, nj, cj, rfl, hcj, hb, hl⟩
      (try simp only [World.size_alloc, World.size_setCell, World.size_drew] at hb)
      have HB := Lib.hid hb
      clear hb
      have s5 := HB.out.size
      (try simp only [World.size_alloc, World.size_setCell, World.size_drew] at s5)
      replace TB := Lib.hid (TB.out.below HB.out (by omega))
      replace d1 := Lib.hid (d1.out.below HB.out (by omega))
      replace o1 := Lib.hid (o1.out.below HB.out (by omega))
      replace s1 := Lib.hid (s1.out.below HB.out (by omega))
      replace EB := Lib.hid (below_step HB.out EB.out (by omega))
      clear HB
      have j1 := Lib.hid hl
      clear hl
      go_wp2_with fail
      refine (to_ds (DecodeSome_any (m := zm) (f := fd) j1.out (by omega) hcj TB.out) HC.out).mono ?_
      rintro e w6 ⟨Aq, nq, cq, rfl, hcq, hb, hl⟩
      (try simp only [World.size_alloc, World.size_setCell, World.size_drew] at hb)
      have HB := Lib.hid hb
      clear hb
      have s6 := HB.out.size
      (try simp only [World.size_alloc, World.size_setCell, World.size_drew] at s6)
      replace TB := Lib.hid (TB.out.below HB.out (by omega))
      replace d1 := Lib.hid (d1.out.below HB.out (by omega))
      replace o1 := Lib.hid (o1.out.below HB.out (by omega))
      replace s1 := Lib.hid (s1.out.below HB.out (by omega))
      replace j1 := Lib.hid (j1.out.below HB.out (by omega))
      replace EB := Lib.hid (below_step HB.out EB.out (by omega))
      clear HB
      have q1 := Lib.hid hl
      clear hl
      go_wp2_with fail
      refine (equalInts_same q1.out o1.out rfl).mono ?_
      rintro e w7 ⟨rfl, hb⟩
      (try simp only [World.size_alloc, World.size_setCell, World.size_drew] at hb)
      have HB := Lib.hid hb
      clear hb
      have s7 := HB.out.size
      (try simp only [World.size_alloc, World.size_setCell, World.size_drew] at s7)
      replace TB := Lib.hid (TB.out.below HB.out (by omega))
      replace d1 := Lib.hid (d1.out.below HB.out (by omega))
      replace o1 := Lib.hid (o1.out.below HB.out (by omega))
      replace s1 := Lib.hid (s1.out.below HB.out (by omega))
      replace j1 := Lib.hid (j1.out.below HB.out (by omega))
      replace q1 := Lib.hid (q1.out.below HB.out (by omega))
      replace EB := Lib.hid (below_step HB.out EB.out (by omega))
      clear HB
      go_wp2
      go_ret
      exact ⟨rfl, EB.out⟩
theorem contract (H : Type) (enc : TypeId × Value → H) (W : World) (base : Nat) (args : Array Value) (ds gs : List (DataW H)) (before : List MemPlace)
    (hval : ∀ (j : Nat) t v, Tryd.f6.params[j]? = some t → args[j]? = some v → Value.okWide Tryd.prog W .any base t v)
    (hW : DataW.Whole enc Tryd.prog Tryd.f6.params.toList Rows.fnDecodeSomeLeadSpec.vars false W args.toList ds gs before) (hL : laidMetH Tryd.prog laidT W) :
    Calls Tryd.prog 6 args W fun e W' => ∃ v, e = .returned v ∧ Rows.fnDecodeSomeLeadSpec.post enc Tryd.prog Tryd.f6 false true false false W args v W' := by
  have hW' := hW
  have hlt : ∀ p ∈ before, p.block < W.heap.size := fun p hp => hW.lt p hp
  obtain ⟨p, q, hA0, hV0, rfl, hfz, hnd⟩ := hW
  have hA : DataW.TrodAll enc Tryd.prog W 0 (fun _ => true) true Tryd.f6.params.toList args.toList ds p := hA0
  have hV : DataW.TrodVars enc Tryd.prog W (fun _ => true) ["loop.example/streamlayers/impl.borders"] gs q := hV0
  rw [Tryd.params6] at hA hval
  obtain ⟨v0, vs0, d0, ds0, p0, q0, hargs, rfl, rfl, h0, r0⟩ := trodAll_cons hA
  obtain ⟨rfl, rfl, rfl⟩ := trodAll_nil r0
  obtain rfl : args = #[v0] := by cases args; simp_all
  obtain ⟨hv, hT⟩ := tab_gives hL
  have lt := hT.lt
  have vr : ∀ {X : World}, Below W.heap.size W X → ∀ sp : Nat → Bool, DataW.TrodVars enc Tryd.prog X sp ["loop.example/streamlayers/impl.borders"] [tabD] (MemPlace.row ⟨0, 0, none⟩ 10) := fun hb sp => tab_read enc (var?_below hb (by kernel_rfl) lt hv) sp
  obtain ⟨rfl, rfl⟩ := hV.unique (vr (Below.refl _ _) _)
  obtain ⟨A, n, c, rfl, hnc, hby, hmx⟩ := arg_bytes (hval 0 _ v0 rfl rfl) h0 (fun p hp => hlt p (by simp [hp]))
  refine (walk A n c W hby hnc hmx hT).mono fun e W' hh => ?_
  obtain ⟨rfl, hb⟩ := hh
  exact ⟨_, rfl, law_postT laidOut (tys_of (by rw [Tryd.params6]; kernel_rfl)) hW' (fun sp => vr hb sp) rfl rfl Tryd.underlying4 hb⟩

set_option maxRecDepth 100000 in
theorem lifted (os : Os) (started : os.Started) (H : Type) (enc : TypeId × Value → H) :
    ReturnsInHanded {} Tryd.checked os 6 .any (fun w args => (Rows.fnDecodeSomeLeadSpec.pre enc Tryd.prog Tryd.f6 [] false w args ∧ laidMetH Tryd.prog laidT w) ∧ sizedMet enc Tryd.prog Tryd.f6 (OpenSpec.ofChange Rows.fnDecodeSomeLeadSpec) false w args) (Rows.fnDecodeSomeLeadSpec.post enc Tryd.prog Tryd.f6 false true false false) := by
  refine returnsInHanded_of_change_and (C := Tryd.checked) (X := fun w _ => laidMetH Tryd.prog laidT w) (fun _ _ _ hh h => h.of_heap hh) own started (by kernel_rfl) Tryd.func6
    (ChangeSpec.witness_shaped (enc := enc) (C := Tryd.checked) (os := os) (X := fun w _ => laidMetH Tryd.prog laidT w) false (World.doorLaid Tryd.prog 19 os) #[.slice none 0 0] 8 rfl (World.shaped_of_RefB (by kernel_rfl) (by kernel_rfl)) (by kernel_rfl) (by kernel_rfl) (by kernel_rfl) (door_metT os _)) ?_
  intro W base args ds gs before hval hW _ _ hL _
  exact contract H enc W base args ds gs before hval hW hL

theorem row : Rows.FnDecodeSomeLeadSaid :=
  OpenClaim.holds_of_wide 6 Tryd.f6 rfl rfl rfl rfl rfl rfl rfl ⟨rfl, rfl, rfl, rfl, rfl⟩ rfl rfl rfl rfl rfl (by kernel_rfl) Tryd.func6 (by kernel_rfl)
    (of_decide_eq_true (by kernel_rfl)) (by unfold Func.isWrapper; first | (rw [if_pos (by decide +kernel)]; kernel_rfl) | (rw [if_neg (by decide +kernel)]; exact ⟨rfl, rfl⟩))
    (fun os started H enc _ => lifted os started H enc)

theorem holds : Rows.FnDecodeSomeLeadCardSaid :=
  Claim7.holds_tied_plain_at .later [] [.data] true _ false
    row (fun _ h => by cases h) (by kernel_rfl) (fun _ h => by cases h) fnDecodeSomeLead_row_tie rfl ⟨rfl, rfl⟩ (by kernel_rfl) rfl
    (fun f fn hf hfn => by
      obtain rfl : f = 6 := Option.some.inj ((show Tryd.prog.funcNamed "loop.example/streamlayers/laws.FnDecodeSomeLead" = some 6 by kernel_rfl).symm.trans hf) |>.symm
      obtain rfl : fn = Tryd.f6 := (Option.some.inj (Tryd.func6.symm.trans hfn)).symm
      exact ⟨by kernel_rfl, fun j t ht => by
        have hm : t ∈ Tryd.f6.params.toList := Array.mem_toList_iff.2 (Array.mem_of_getElem? ht)
        have hall : (Tryd.f6.params.toList.all fun t => !(Tryd.prog.wantsStandIn t)) = true := by kernel_rfl
        have h9 := List.all_eq_true.1 hall t hm
        show Tryd.prog.wantsStandIn t = false
        simpa using h9⟩)
    (by kernel_rfl)
end LawDecodeSomeLead
end Go.Proofs.YtkgjcoakeliocaaDoor
