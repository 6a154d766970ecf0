/- The law of promise 52: bytes without a 13 come back, and what is met is the mark alone. No conditions. -/
import Derived.Test.YtlekbmlacinkdaaQ2
set_option maxRecDepth 10000
namespace Go.Proofs.Ytlekbmlacinkdaa
open Go.ChangeShapes Go.WideShapes Go.ChangeAt Go.RowKit
set_option linter.unusedSimpArgs false
set_option linter.unusedVariables false
namespace LawNewlineOut
set_option maxHeartbeats 8000000 in
theorem walk (A : Option Addr) (n c : Nat) (w : World) (h : BytesIn w w.heap.size A n) (hnc : n ≤ c) (hm : n ≤ 9223372036854775807) :
    Calls Try.prog 5 #[.slice A n c] w (BoolB true w) := by
  have HBY := Lib.hid h
  clear h
  have EB := Lib.hid (Below.refl w.heap.size w)
  by_cases hbig : (1048576 : Int) < (n : Int)
  · go_enter Try.func5, Try.ntmps5
    go_wp2
    go_ret
    exact ⟨rfl, Below.refl _ _⟩
  go_enter Try.func5, Try.ntmps5
  go_wp2_with fail
  refine (DrawNewlineOut_any HBY.out (by omega) hnc).mono ?_
  rintro e w1 ⟨Ad, nd, cd, Dd, zk, rfl, hcd, hnd, hb, hl, hzk⟩
  (try simp only [World.size_alloc, World.size_setCell, World.size_drew] at hb)
  have HB := Lib.hid hb
  clear hb
  have s1 := HB.out.size
  (try simp only [World.size_alloc, World.size_setCell, World.size_drew] at s1)
  replace EB := Lib.hid (below_step HB.out EB.out (by omega))
  clear HB
  have d1 := Lib.hid hl
  clear hl HBY
  go_wp2_with fail
  refine (NewlineOut_any (k := zk) d1.out (by omega) hcd).mono ?_
  rintro e w2 ⟨Ao, no, co, rfl, hco, hb, hl⟩
  (try simp only [World.size_alloc, World.size_setCell, World.size_drew] at hb)
  have HB := Lib.hid hb
  clear hb
  have s2 := HB.out.size
  (try simp only [World.size_alloc, World.size_setCell, World.size_drew] at s2)
  replace d1 := Lib.hid (d1.out.below HB.out (by omega))
  replace EB := Lib.hid (below_step HB.out EB.out (by omega))
  clear HB
  have o1 := Lib.hid hl
  clear hl
  go_wp2_with fail
  refine (SNewlineOut_any (k := zk) d1.out (by omega)).mono ?_
  rintro e w3 ⟨As, ns, cs, rfl, hcs, hb, hl⟩
  (try simp only [World.size_alloc, World.size_setCell, World.size_drew] at hb)
  have HB := Lib.hid hb
  clear hb
  have s3 := HB.out.size
  (try simp only [World.size_alloc, World.size_setCell, World.size_drew] at s3)
  replace d1 := Lib.hid (d1.out.below HB.out (by omega))
  replace o1 := Lib.hid (o1.out.below HB.out (by omega))
  replace EB := Lib.hid (below_step HB.out EB.out (by omega))
  clear HB
  have s1 := Lib.hid hl
  clear hl
  go_wp2_with fail
  refine (equalInts_same o1.out s1.out rfl).mono ?_
  rintro e w4 ⟨rfl, hb⟩
  (try simp only [World.size_alloc, World.size_setCell, World.size_drew] at hb)
  have HB := Lib.hid hb
  clear hb
  have s4 := HB.out.size
  (try simp only [World.size_alloc, World.size_setCell, World.size_drew] at s4)
  replace d1 := Lib.hid (d1.out.below HB.out (by omega))
  replace o1 := Lib.hid (o1.out.below HB.out (by omega))
  replace s1 := Lib.hid (s1.out.below HB.out (by omega))
  replace EB := Lib.hid (below_step HB.out EB.out (by omega))
  clear HB
  have HLO := Lib.hid o1.out.len
  by_cases h0 : no = 0
  · subst h0
    go_wp2_with fail
    refine (SNewlineOut_any (k := zk) d1.out (by omega)).mono ?_
    rintro e w5 ⟨At, nt, ct, rfl, hct, hb, hl⟩
    (try simp only [World.size_alloc, World.size_setCell, World.size_drew] at hb)
    have HB := Lib.hid hb
    clear hb
    have s5 := HB.out.size
    (try simp only [World.size_alloc, World.size_setCell, World.size_drew] at s5)
    replace d1 := Lib.hid (d1.out.below HB.out (by omega))
    replace o1 := Lib.hid (o1.out.below HB.out (by omega))
    replace s1 := Lib.hid (s1.out.below HB.out (by omega))
    replace EB := Lib.hid (below_step HB.out EB.out (by omega))
    clear HB
    have t1 := Lib.hid hl
    clear hl
    go_wp2_with fail
    refine (equalInts_same o1.out t1.out rfl).mono ?_
    rintro e w6 ⟨rfl, hb⟩
    (try simp only [World.size_alloc, World.size_setCell, World.size_drew] at hb)
    have HB := Lib.hid hb
    clear hb
    have s6 := HB.out.size
    (try simp only [World.size_alloc, World.size_setCell, World.size_drew] at s6)
    replace d1 := Lib.hid (d1.out.below HB.out (by omega))
    replace o1 := Lib.hid (o1.out.below HB.out (by omega))
    replace s1 := Lib.hid (s1.out.below HB.out (by omega))
    replace t1 := Lib.hid (t1.out.below HB.out (by omega))
    replace EB := Lib.hid (below_step HB.out EB.out (by omega))
    clear HB
    go_wp2
    go_ret
    exact ⟨rfl, EB.out⟩
  · have hz : ((no : Int) == 0) = false := by simp; omega
    cases hm : decide ((13 : Int) ∈ Dd)
    · go_wp2_with fail
      have HM := Lib.hid hm
      clear hm
      refine (lawIsIn_any d1.out).mono ?_
      rintro e w5 ⟨rfl, hb⟩
      (try simp only [World.size_alloc, World.size_setCell, World.size_drew] at hb)
      have HB := Lib.hid hb
      clear hb
      have s5 := HB.out.size
      (try simp only [World.size_alloc, World.size_setCell, World.size_drew] at s5)
      replace d1 := Lib.hid (d1.out.below HB.out (by omega))
      replace o1 := Lib.hid (o1.out.below HB.out (by omega))
      replace s1 := Lib.hid (s1.out.below HB.out (by omega))
      replace EB := Lib.hid (below_step HB.out EB.out (by omega))
      clear HB
      rw [HM.out]
      by_cases h60 : (60 : Int) < (no : Int)
      · go_wp2_with fail
        refine (SNewlineOut_any (k := zk) d1.out (by omega)).mono ?_
        rintro e w6 ⟨At, nt, ct, rfl, hct, hb, hl⟩
        (try simp only [World.size_alloc, World.size_setCell, World.size_drew] at hb)
        have HB := Lib.hid hb
        clear hb
        have s6 := HB.out.size
        (try simp only [World.size_alloc, World.size_setCell, World.size_drew] at s6)
        replace d1 := Lib.hid (d1.out.below HB.out (by omega))
        replace o1 := Lib.hid (o1.out.below HB.out (by omega))
        replace s1 := Lib.hid (s1.out.below HB.out (by omega))
        replace EB := Lib.hid (below_step HB.out EB.out (by omega))
        clear HB
        have t1 := Lib.hid hl
        clear hl
        go_wp2_with fail
        refine (equalInts_same o1.out t1.out rfl).mono ?_
        rintro e w7 ⟨rfl, hb⟩
        (try simp only [World.size_alloc, World.size_setCell, World.size_drew] at hb)
        have HB := Lib.hid hb
        clear hb
        have s7 := HB.out.size
        (try simp only [World.size_alloc, World.size_setCell, World.size_drew] at s7)
        replace d1 := Lib.hid (d1.out.below HB.out (by omega))
        replace o1 := Lib.hid (o1.out.below HB.out (by omega))
        replace s1 := Lib.hid (s1.out.below HB.out (by omega))
        replace t1 := Lib.hid (t1.out.below HB.out (by omega))
        replace EB := Lib.hid (below_step HB.out EB.out (by omega))
        clear HB
        go_wp2
        go_ret
        exact ⟨rfl, EB.out⟩
      · have hok : noOk Dd zk = true := by cases e : noOk Dd zk with | true => rfl | false => exact absurd (by have h := HLO.out; rw [noL, e] at h; simpa using h) h0
        have e1 : noL Dd zk = outL Dd zk := by rw [noL, hok]; rfl
        rw [e1] at o1 s1 HLO
        have hmk := noOk_mark hok
        have hbo := outL_bytes hok (by have := HLO.out; omega)
        have hn13 : ∀ x ∈ Dd, x ≠ 13 := fun x hx e => by subst e; have := HM.out; simp at this; exact this hx
        obtain ⟨b1, b2, b3⟩ := ni0 hbo
        rw [(nl_back hmk Dd hn13).1] at b3
        have hseen := (nl_back_seen hmk Dd hn13 0 (.inl rfl)).1
        rw [← b2] at hseen
        obtain ⟨S, hS⟩ : ∃ S, niS false true 0 (outL Dd zk) = S := ⟨_, rfl⟩
        rw [hS] at hseen
        have B1 := Lib.hid b1; have B2 := Lib.hid hS; have B3 := Lib.hid b3
        clear b1 b2 b3 hS hok e1 hmk hbo hn13
        go_wp2_with fail
        refine (to_nl (NewlineIn_any o1.out (by omega) hco (by unfold okInt; omega)) B1.out B2.out B3.out).mono ?_
        rintro e w6 ⟨Al, nl, cl, rfl, hcl, hb, hl⟩
        (try simp only [World.size_alloc, World.size_setCell, World.size_drew] at hb)
        have HB := Lib.hid hb
        clear hb
        have s6 := HB.out.size
        (try simp only [World.size_alloc, World.size_setCell, World.size_drew] at s6)
        replace d1 := Lib.hid (d1.out.below HB.out (by omega))
        replace o1 := Lib.hid (o1.out.below HB.out (by omega))
        replace s1 := Lib.hid (s1.out.below HB.out (by omega))
        replace EB := Lib.hid (below_step HB.out EB.out (by omega))
        clear HB
        have l1 := Lib.hid hl
        clear hl
        go_wp2_with fail
        replace d1 := Lib.hid (d1.out.alloc (by omega) (.cells #[.bool (false), .int .i64 (S)] 24))
        replace o1 := Lib.hid (o1.out.alloc (by omega) (.cells #[.bool (false), .int .i64 (S)] 24))
        replace s1 := Lib.hid (s1.out.alloc (by omega) (.cells #[.bool (false), .int .i64 (S)] 24))
        replace l1 := Lib.hid (l1.out.alloc (by omega) (.cells #[.bool (false), .int .i64 (S)] 24))
        replace EB := Lib.hid (EB.out.alloc (by omega) (.cells #[.bool (false), .int .i64 (S)] 24))
        have Bx := Lib.hid (Box.new w6 24 [.bool (false), .int .i64 (S)])
        have s7 : w6.heap.size + 1 ≤ (w6.alloc (.cells #[.bool (false), .int .i64 (S)] 24)).heap.size := by simp
        generalize w6.alloc (.cells #[.bool (false), .int .i64 (S)] 24) = w7 at *
        refine (equalInts_same l1.out d1.out rfl).mono ?_
        rintro e w8 ⟨rfl, hb⟩
        (try simp only [World.size_alloc, World.size_setCell, World.size_drew] at hb)
        have HB := Lib.hid hb
        clear hb
        have s8 := HB.out.size
        (try simp only [World.size_alloc, World.size_setCell, World.size_drew] at s8)
        replace d1 := Lib.hid (d1.out.below HB.out (by omega))
        replace o1 := Lib.hid (o1.out.below HB.out (by omega))
        replace s1 := Lib.hid (s1.out.below HB.out (by omega))
        replace l1 := Lib.hid (l1.out.below HB.out (by omega))
        replace Bx := Lib.hid (Bx.out.below HB.out (by omega))
        replace EB := Lib.hid (below_step HB.out EB.out (by omega))
        clear HB
        rcases hseen with rfl | rfl
        · have vxl := Bx.out.lt
          have vx0 := (Bx.out.2 0 _ rfl).1
          have vx1 := (Bx.out.2 1 _ rfl).1
          go_wp2
          all_goals (go_ret; exact ⟨(by first | rfl | (refine ret_bool ?_; simp)), EB.out⟩)
        · skip
          have vxl := Bx.out.lt
          have vx0 := (Bx.out.2 0 _ rfl).1
          have vx1 := (Bx.out.2 1 _ rfl).1
          go_wp2
          all_goals (go_ret; exact ⟨(by first | rfl | (refine ret_bool ?_; simp)), EB.out⟩)
    · go_wp2_with fail
      have HM := Lib.hid hm
      clear hm
      refine (lawIsIn_any d1.out).mono ?_
      rintro e w5 ⟨rfl, hb⟩
      (try simp only [World.size_alloc, World.size_setCell, World.size_drew] at hb)
      have HB := Lib.hid hb
      clear hb
      have s5 := HB.out.size
      (try simp only [World.size_alloc, World.size_setCell, World.size_drew] at s5)
      replace d1 := Lib.hid (d1.out.below HB.out (by omega))
      replace o1 := Lib.hid (o1.out.below HB.out (by omega))
      replace s1 := Lib.hid (s1.out.below HB.out (by omega))
      replace EB := Lib.hid (below_step HB.out EB.out (by omega))
      clear HB
      rw [HM.out]
      go_wp2_with fail
      refine (SNewlineOut_any (k := zk) d1.out (by omega)).mono ?_
      rintro e w6 ⟨At, nt, ct, rfl, hct, hb, hl⟩
      (try simp only [World.size_alloc, World.size_setCell, World.size_drew] at hb)
      have HB := Lib.hid hb
      clear hb
      have s6 := HB.out.size
      (try simp only [World.size_alloc, World.size_setCell, World.size_drew] at s6)
      replace d1 := Lib.hid (d1.out.below HB.out (by omega))
      replace o1 := Lib.hid (o1.out.below HB.out (by omega))
      replace s1 := Lib.hid (s1.out.below HB.out (by omega))
      replace EB := Lib.hid (below_step HB.out EB.out (by omega))
      clear HB
      have t1 := Lib.hid hl
      clear hl
      go_wp2_with fail
      refine (equalInts_same o1.out t1.out rfl).mono ?_
      rintro e w7 ⟨rfl, hb⟩
      (try simp only [World.size_alloc, World.size_setCell, World.size_drew] at hb)
      have HB := Lib.hid hb
      clear hb
      have s7 := HB.out.size
      (try simp only [World.size_alloc, World.size_setCell, World.size_drew] at s7)
      replace d1 := Lib.hid (d1.out.below HB.out (by omega))
      replace o1 := Lib.hid (o1.out.below HB.out (by omega))
      replace s1 := Lib.hid (s1.out.below HB.out (by omega))
      replace t1 := Lib.hid (t1.out.below HB.out (by omega))
      replace EB := Lib.hid (below_step HB.out EB.out (by omega))
      clear HB
      go_wp2
      go_ret
      exact ⟨rfl, EB.out⟩

theorem contract (H : Type) (enc : TypeId × Value → H) (W : World) (base : Nat) (args : Array Value) (ds gs : List (DataW H)) (before : List MemPlace)
    (hval : ∀ (j : Nat) t v, Try.f5.params[j]? = some t → args[j]? = some v → Value.okWide Try.prog W .any base t v)
    (hW : DataW.Whole enc Try.prog Try.f5.params.toList Rows.fnNewlineOutSpec.vars false W args.toList ds gs before) :
    Calls Try.prog 5 args W fun e W' => ∃ v, e = .returned v ∧ Rows.fnNewlineOutSpec.post enc Try.prog Try.f5 false true false false W args v W' := by
  have hW' := hW
  have hlt : ∀ p ∈ before, p.block < W.heap.size := fun p hp => hW.lt p hp
  obtain ⟨p, q, hA0, hV, rfl, hfz, hnd⟩ := hW
  have hA : DataW.TrodAll enc Try.prog W 0 (fun _ => true) true Try.f5.params.toList args.toList ds p := hA0
  rw [Try.params5] at hA hval
  obtain ⟨v0, vs0, d0, ds0, p0, q0, hargs, rfl, rfl, h0, r0⟩ := trodAll_cons hA
  obtain ⟨rfl, rfl, rfl⟩ := trodAll_nil r0
  obtain rfl : args = #[v0] := by cases args; simp_all
  obtain ⟨rfl, rfl⟩ := trodVars_none hV
  obtain ⟨A, n, c, rfl, hnc, hby, hmx⟩ := arg_bytes (hval 0 _ v0 rfl rfl) h0 (fun p hp => hlt p (by simp [hp]))
  refine (walk A n c W hby hnc hmx).mono fun e W' hh => ?_
  obtain ⟨rfl, hb⟩ := hh
  exact ⟨_, rfl, law_post laidOut (tys_of (by rw [Try.params5]; kernel_rfl)) hW' rfl rfl rfl Try.underlying4 hb⟩

set_option maxRecDepth 100000 in
theorem lifted (os : Os) (started : os.Started) (H : Type) (enc : TypeId × Value → H) :
    ReturnsInHanded {} Try.checked os 5 .any (Rows.fnNewlineOutSpec.pre6 enc Try.prog Try.f5 Rows.fnNewlineOutRow.domain false) (Rows.fnNewlineOutSpec.post enc Try.prog Try.f5 false true false false) := by
  refine returnsInHanded_of_change (C := Try.checked) own started (by kernel_rfl) Try.func5
    (ChangeSpec.witness6 (C := Try.checked) false ⟨#[], #[.slice none 0 0], []⟩ 8 (by kernel_rfl) (by kernel_rfl) (by kernel_rfl) (by kernel_rfl)) ?_
  intro W base args ds gs before hval hW _ _
  exact contract H enc W base args ds gs before hval hW

theorem holds : Rows.FnNewlineOutSaid :=
  OpenClaim.holds_of_wide 5 Try.f5 rfl rfl rfl rfl rfl rfl rfl ⟨rfl, rfl, rfl, rfl, rfl⟩ rfl rfl rfl rfl rfl (by kernel_rfl) Try.func5 (by kernel_rfl)
    (of_decide_eq_true (by kernel_rfl)) (by unfold Func.isWrapper; first | (rw [if_pos (by decide +kernel)]; kernel_rfl) | (rw [if_neg (by decide +kernel)]; exact ⟨rfl, rfl⟩))
    (fun os started H enc _ => lifted os started H enc)
end LawNewlineOut
end Go.Proofs.Ytlekbmlacinkdaa
