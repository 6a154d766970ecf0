/- The law of promise 36: as many bytes as there is room for are taken, without a call, and there is no room then. No conditions. -/
import Derived.Test.YtdiebkaedjlckaaDoorG1
import Derived.Test.YtdiebkaedjlckaaDoorW3
import Derived.Test.YtdiebkaedjlckaaDoorW4
import Derived.Test.YtdiebkaedjlckaaDoorW5
import Derived.Test.YtdiebkaedjlckaaDoorS3a
import Derived.Test.YtdiebkaedjlckaaDoorT6
import Derived.Test.YtdiebkaedjlckaaDoorW6
import Derived.Test.YtdiebkaedjlckaaDoorER3
import Derived.Test.YtdiebkaedjlckaaDoorCards
import Derived.Test.YtdiebkaedjlckaaDoorTie
set_option maxRecDepth 10000
namespace Go.Proofs.YtdiebkaedjlckaaDoor
open Go.ChangeShapes Go.WideShapes Go.ChangeAt Go.RowKit
set_option linter.unusedSimpArgs false
set_option linter.unusedVariables false
namespace LawRoomOf
set_option maxHeartbeats 8000000 in
theorem walk {a0 a1 a2 : Addr} (A : Option Addr) (n c : Nat) (w : World) (h : BytesIn w w.heap.size A n) (hnc : n ≤ c) (hm : n ≤ 9223372036854775807) (HE : Errs w w.heap.size a0 a1 a2) :
    Calls Tryd.prog 11 #[.slice A n c] w (BoolB true w) := by
  have HBY := Lib.hid h
  clear h
  have EB := Lib.hid (Below.refl w.heap.size w)
  by_cases hbig : (1048576 : Int) < (n : Int)
  · go_enter Tryd.func11, Tryd.ntmps11
    go_wp2
    go_ret
    exact ⟨rfl, Below.refl _ _⟩
  go_enter Tryd.func11, Tryd.ntmps11
  go_wp2_with fail
  refine (DrawRoomOf_any HBY.out (by omega) hnc).mono ?_
  rintro e w1 ⟨Ad, nd, cd, Ad', nd', cd', Ed, md, kd, Dd, Sd, Rd, pd, qd, yd, rfl, ⟨⟨hcd, hcd', hkd⟩, ⟨hnd, hnd', hmd⟩, hpd, hqd, hyd, hb, hd, hd', hr⟩⟩
  (try simp only [World.size_alloc, World.size_setCell, World.size_drew] at hb)
  have HB := Lib.hid hb
  clear hb
  have s1 := HB.out.size
  (try simp only [World.size_alloc, World.size_setCell, World.size_drew] at s1)
  replace EB := Lib.hid (below_step HB.out EB.out (by omega))
  clear HB
  clear HBY
  have d1 := Lib.hid hd
  have d2 := Lib.hid hd'
  have d3 := Lib.hid hr
  clear hd hd' hr
  go_wp2_with fail
  replace d1 := Lib.hid (d1.out.alloc (by omega) (.cells #[.slice Ad nd cd, .int .i64 (pd), .slice Ad' nd' cd', .int .i64 (qd), .slice Ed md kd, .int .i64 (yd)] 30))
  replace d2 := Lib.hid (d2.out.alloc (by omega) (.cells #[.slice Ad nd cd, .int .i64 (pd), .slice Ad' nd' cd', .int .i64 (qd), .slice Ed md kd, .int .i64 (yd)] 30))
  replace d3 := Lib.hid (d3.out.alloc (by omega) (.cells #[.slice Ad nd cd, .int .i64 (pd), .slice Ad' nd' cd', .int .i64 (qd), .slice Ed md kd, .int .i64 (yd)] 30))
  replace EB := Lib.hid (EB.out.alloc (by omega) (.cells #[.slice Ad nd cd, .int .i64 (pd), .slice Ad' nd' cd', .int .i64 (qd), .slice Ed md kd, .int .i64 (yd)] 30))
  have Bd := Lib.hid (Box.new w1 30 [.slice Ad nd cd, .int .i64 (pd), .slice Ad' nd' cd', .int .i64 (qd), .slice Ed md kd, .int .i64 (yd)])
  have s2 : w1.heap.size + 1 ≤ (w1.alloc (.cells #[.slice Ad nd cd, .int .i64 (pd), .slice Ad' nd' cd', .int .i64 (qd), .slice Ed md kd, .int .i64 (yd)] 30)).heap.size := by simp
  generalize w1.alloc (.cells #[.slice Ad nd cd, .int .i64 (pd), .slice Ad' nd' cd', .int .i64 (qd), .slice Ed md kd, .int .i64 (yd)] 30) = w2 at *
  cases hv : validW Dd pd Sd qd Rd yd
  · have RM : Hid (roomOut Dd pd Sd qd Rd yd = -1) := by show _ = _; unfold roomOut; rw [hv]; rfl
    refine (to_intN (RoomOf_x d1.out d2.out d3.out (by omega) (by omega) (by omega) hcd) RM.out).mono ?_
    rintro e w3 ⟨rfl, hb⟩
    (try simp only [World.size_alloc, World.size_setCell, World.size_drew] at hb)
    have HB := Lib.hid hb
    clear hb
    have s3 := HB.out.size
    (try simp only [World.size_alloc, World.size_setCell, World.size_drew] at s3)
    replace d1 := Lib.hid (d1.out.below HB.out (by omega))
    replace d2 := Lib.hid (d2.out.below HB.out (by omega))
    replace d3 := Lib.hid (d3.out.below HB.out (by omega))
    replace Bd := Lib.hid (Bd.out.below HB.out (by omega))
    replace EB := Lib.hid (below_step HB.out EB.out (by omega))
    clear HB
    have vdl := Bd.out.lt
    have vd0 := (Bd.out.2 0 _ rfl).1
    have vd1 := (Bd.out.2 1 _ rfl).1
    have vd2 := (Bd.out.2 2 _ rfl).1
    have vd3 := (Bd.out.2 3 _ rfl).1
    have vd4 := (Bd.out.2 4 _ rfl).1
    have vd5 := (Bd.out.2 5 _ rfl).1
    go_wp2_with fail
    refine (to_intN (SRoomOf_x d1.out d2.out d3.out (by omega) (by omega) (by omega) hcd) RM.out).mono ?_
    clear vdl vd0 vd1 vd2 vd3 vd4 vd5
    rintro e w4 ⟨rfl, hb⟩
    (try simp only [World.size_alloc, World.size_setCell, World.size_drew] at hb)
    have HB := Lib.hid hb
    clear hb
    have s4 := HB.out.size
    (try simp only [World.size_alloc, World.size_setCell, World.size_drew] at s4)
    replace d1 := Lib.hid (d1.out.below HB.out (by omega))
    replace d2 := Lib.hid (d2.out.below HB.out (by omega))
    replace d3 := Lib.hid (d3.out.below HB.out (by omega))
    replace Bd := Lib.hid (Bd.out.below HB.out (by omega))
    replace EB := Lib.hid (below_step HB.out EB.out (by omega))
    clear HB
    have vdl := Bd.out.lt
    have vd0 := (Bd.out.2 0 _ rfl).1
    have vd1 := (Bd.out.2 1 _ rfl).1
    have vd2 := (Bd.out.2 2 _ rfl).1
    have vd3 := (Bd.out.2 3 _ rfl).1
    have vd4 := (Bd.out.2 4 _ rfl).1
    have vd5 := (Bd.out.2 5 _ rfl).1
    go_wp2_with fail
    refine (to_intN (SRoomOf_x d1.out d2.out d3.out (by omega) (by omega) (by omega) hcd) RM.out).mono ?_
    clear vdl vd0 vd1 vd2 vd3 vd4 vd5
    rintro e w5 ⟨rfl, hb⟩
    (try simp only [World.size_alloc, World.size_setCell, World.size_drew] at hb)
    have HB := Lib.hid hb
    clear hb
    have s5 := HB.out.size
    (try simp only [World.size_alloc, World.size_setCell, World.size_drew] at s5)
    replace d1 := Lib.hid (d1.out.below HB.out (by omega))
    replace d2 := Lib.hid (d2.out.below HB.out (by omega))
    replace d3 := Lib.hid (d3.out.below HB.out (by omega))
    replace Bd := Lib.hid (Bd.out.below HB.out (by omega))
    replace EB := Lib.hid (below_step HB.out EB.out (by omega))
    clear HB
    go_wp2
    go_ret
    exact ⟨rfl, EB.out⟩
  · obtain ⟨k, hk16, hzk, hrm⟩ := room_yes hv
    have RM := Lib.hid hrm
    have ZK := Lib.hid hzk
    clear hrm hzk
    refine (to_intN (RoomOf_x d1.out d2.out d3.out (by omega) (by omega) (by omega) hcd) RM.out).mono ?_
    rintro e w3 ⟨rfl, hb⟩
    (try simp only [World.size_alloc, World.size_setCell, World.size_drew] at hb)
    have HB := Lib.hid hb
    clear hb
    have s3 := HB.out.size
    (try simp only [World.size_alloc, World.size_setCell, World.size_drew] at s3)
    replace d1 := Lib.hid (d1.out.below HB.out (by omega))
    replace d2 := Lib.hid (d2.out.below HB.out (by omega))
    replace d3 := Lib.hid (d3.out.below HB.out (by omega))
    replace Bd := Lib.hid (Bd.out.below HB.out (by omega))
    replace EB := Lib.hid (below_step HB.out EB.out (by omega))
    clear HB
    have vdl := Bd.out.lt
    have vd0 := (Bd.out.2 0 _ rfl).1
    have vd1 := (Bd.out.2 1 _ rfl).1
    have vd2 := (Bd.out.2 2 _ rfl).1
    have vd3 := (Bd.out.2 3 _ rfl).1
    have vd4 := (Bd.out.2 4 _ rfl).1
    have vd5 := (Bd.out.2 5 _ rfl).1
    go_wp2_with fail
    refine (to_intN (SRoomOf_x d1.out d2.out d3.out (by omega) (by omega) (by omega) hcd) RM.out).mono ?_
    clear vdl vd0 vd1 vd2 vd3 vd4 vd5
    rintro e w4 ⟨rfl, hb⟩
    (try simp only [World.size_alloc, World.size_setCell, World.size_drew] at hb)
    have HB := Lib.hid hb
    clear hb
    have s4 := HB.out.size
    (try simp only [World.size_alloc, World.size_setCell, World.size_drew] at s4)
    replace d1 := Lib.hid (d1.out.below HB.out (by omega))
    replace d2 := Lib.hid (d2.out.below HB.out (by omega))
    replace d3 := Lib.hid (d3.out.below HB.out (by omega))
    replace Bd := Lib.hid (Bd.out.below HB.out (by omega))
    replace EB := Lib.hid (below_step HB.out EB.out (by omega))
    clear HB
    have hki0 : (0 : Int) ≤ (k : Int) := by omega
    have hkn : ¬ (k : Int) < 0 := by omega
    have hkz : decide ((k : Int) < 0) = false := by simp
    have hmk := run_make_row' (P := Tryd.prog) 22 3 (.int .i64 0) 8 Tryd.underlying22 infoInt rfl .i64 .i64 k (by omega) (by omega)
    cases hg : goodW Dd pd Sd qd Rd yd
    · have HO := Lib.hid (wb_no (D := Dd) (p := pd) (S := Sd) (q := qd) (R := Rd) (L := List.replicate k 0) (z := yd) (e := -1) (by rw [hg]; rfl))
      clear hg
      have CALL : Hid (∀ (X : World) (b : Nat), Below w4.heap.size w4 X → b < X.heap.size → Ints X b (b + 1) (some ⟨b, 0, none⟩) k (List.replicate k 0) → Calls Tryd.prog 16 #[.agg #[.slice Ad nd cd, .int .i64 (pd), .slice Ad' nd' cd', .int .i64 (qd), .slice Ed md kd, .int .i64 (yd)], .slice (some ⟨b, 0, none⟩) k k] X (PostRII [] 0 [] 0 [] 0 0 5 X)) := by
        intro X b hX hbX hI
        have sX := hX.size
        exact to_rii (WriteBytes_x ((HE.below EB.out (Nat.le_refl _)).below hX EB.out.size) (by have := EB.out.size; omega) (d1.out.below hX (by omega)) (d2.out.below hX (by omega)) (d3.out.below hX (by omega)) hI (by omega) (by omega) (by omega) (by omega) hcd hcd' hkd (Nat.le_refl _) (by omega) (by omega) (by omega) (by omega)) HO.out
      have vdl := Bd.out.lt
      have vd0 := (Bd.out.2 0 _ rfl).1
      have vd1 := (Bd.out.2 1 _ rfl).1
      have vd2 := (Bd.out.2 2 _ rfl).1
      have vd3 := (Bd.out.2 3 _ rfl).1
      have vd4 := (Bd.out.2 4 _ rfl).1
      have vd5 := (Bd.out.2 5 _ rfl).1
      go_wp2_with fail
      go_region_law (first | (go_simp; go_at_call 16; (with_reducible refine (CALL.out _ _ (by go_grown) (by first | omega | (simp; omega) | (simp; done)) (by first | exact made_ints _ k (by omega) | (have h := (made_ints (w4.alloc (.cells #[.slice none 0 0, .int .i64 0, .slice none 0 0, .int .i64 0, .slice none 0 0, .int .i64 0] 30)) k (by omega)).drew; simp only [World.size_alloc] at h; exact h) | exact (made_ints _ k (by omega)).drew | exact ((made_ints _ k (by omega)).alloc (by simp) _) | exact ((made_ints _ k (by omega)).alloc (by simp) _).drew)).mono ?_); rintro e wx ⟨Ax, nx, cx, Ax', nx', cx', Ex, mx, kx, rfl, ⟨hcx, hcx', hkx⟩, hb, hd, hd', hr⟩; have sx0 := hb.size; (try simp only [World.size_alloc, World.size_setCell, World.size_drew] at sx0); have HBX : Hid (Below w4.heap.size w4 wx) := below_step hb (by go_grown) (by first | omega | (simp; omega) | (simp; done)); (first | (have ZB : Hid (Box wx (w4.heap.size + 1) [.slice none 0 0, .int .i64 0, .slice none 0 0, .int .i64 0, .slice none 0 0, .int .i64 0]) := (by show Box _ _ _; first | (have hx := Box.below (Box.new (w4.alloc (.cells (madeCells #[.int .i64 0] k) 3)) 30 [.slice none 0 0, .int .i64 0, .slice none 0 0, .int .i64 0, .slice none 0 0, .int .i64 0]) hb (by first | omega | (simp; omega) | (simp; done)); first | exact hx | simpa using hx) | (have hx := Box.below (Box.drew (Box.new (w4.alloc (.cells (madeCells #[.int .i64 0] k) 3)) 30 [.slice none 0 0, .int .i64 0, .slice none 0 0, .int .i64 0, .slice none 0 0, .int .i64 0])) hb (by first | omega | (simp; omega) | (simp; done)); first | exact hx | simpa using hx)); obtain ⟨bx, hbx⟩ : ∃ bx : Nat, bx = w4.heap.size + 1 := ⟨_, rfl⟩; have zr0 := (ZB.out.2 0 _ rfl).1; have zr1 := (ZB.out.2 1 _ rfl).1; have zr2 := (ZB.out.2 2 _ rfl).1; have zr3 := (ZB.out.2 3 _ rfl).1; have zr4 := (ZB.out.2 4 _ rfl).1; have zr5 := (ZB.out.2 5 _ rfl).1; have zf0 := (ZB.out.2 0 _ rfl).2; have zf1 := (ZB.out.2 1 _ rfl).2; have zf2 := (ZB.out.2 2 _ rfl).2; have zf3 := (ZB.out.2 3 _ rfl).2; have zf4 := (ZB.out.2 4 _ rfl).2; have zf5 := (ZB.out.2 5 _ rfl).2) | (have ZB : Hid (Box wx (w4.heap.size) [.slice none 0 0, .int .i64 0, .slice none 0 0, .int .i64 0, .slice none 0 0, .int .i64 0]) := (by show Box _ _ _; first | (have hx := Box.below ((Box.new w4 30 [.slice none 0 0, .int .i64 0, .slice none 0 0, .int .i64 0, .slice none 0 0, .int .i64 0]).alloc (.cells (madeCells #[.int .i64 0] k) 3)) hb (by first | omega | (simp; omega) | (simp; done)); first | exact hx | simpa using hx) | (have hx := Box.below (Box.drew ((Box.new w4 30 [.slice none 0 0, .int .i64 0, .slice none 0 0, .int .i64 0, .slice none 0 0, .int .i64 0]).alloc (.cells (madeCells #[.int .i64 0] k) 3))) hb (by first | omega | (simp; omega) | (simp; done)); first | exact hx | simpa using hx)); obtain ⟨bx, hbx⟩ : ∃ bx : Nat, bx = w4.heap.size := ⟨_, rfl⟩; have zr0 := (ZB.out.2 0 _ rfl).1; have zr1 := (ZB.out.2 1 _ rfl).1; have zr2 := (ZB.out.2 2 _ rfl).1; have zr3 := (ZB.out.2 3 _ rfl).1; have zr4 := (ZB.out.2 4 _ rfl).1; have zr5 := (ZB.out.2 5 _ rfl).1; have zf0 := (ZB.out.2 0 _ rfl).2; have zf1 := (ZB.out.2 1 _ rfl).2; have zf2 := (ZB.out.2 2 _ rfl).2; have zf3 := (ZB.out.2 3 _ rfl).2; have zf4 := (ZB.out.2 4 _ rfl).2; have zf5 := (ZB.out.2 5 _ rfl).2) | (obtain ⟨bx, hbx⟩ : ∃ bx : Nat, bx = wx.heap.size := ⟨_, rfl⟩)); (try simp only [World.size_alloc, World.size_setCell, World.size_drew] at hd hd' hr); have D9 := Lib.hid hd; have E9 := Lib.hid hd'; have R9 := Lib.hid hr; clear hd hd' hr hb))
      all_goals
        rw [← hbx]
        refine wp_renameK (fun w9 => Hid (Below w4.heap.size w4 w9) ∧ Hid (Ints w9 w4.heap.size wx.heap.size Ax nx []) ∧ Hid (Ints w9 w4.heap.size wx.heap.size Ax' nx' []) ∧ Hid (Ints w9 w4.heap.size wx.heap.size Ex mx []) ∧ Hid (Box w9 bx [.slice Ax nx cx, .int .i64 (0), .slice Ax' nx' cx', .int .i64 (0), .slice Ex mx kx, .int .i64 (0)]) ∧ w4.heap.size ≤ bx ∧ wx.heap.size ≤ w9.heap.size) ⟨?_, ?_, ?_, ?_, ?_, by omega, ?_⟩ ?_
        · show Below _ _ _
          repeat (first | (with_reducible refine below_set ?_ (by omega) _) | (with_reducible refine Below.alloc ?_ (by omega) _) | (with_reducible refine Below.drew ?_))
          exact HBX.out
        · show Ints _ _ _ _ _ _
          first
            | (refine Ints.more (lo := w4.heap.size + 1) (hi := wx.heap.size) ?_ (by omega) (Nat.le_refl _); with_reducible exact Ints.alloc D9.out (Nat.le_refl _) _)
            | (refine Ints.more (lo := w4.heap.size + 1 + 1) (hi := wx.heap.size) ?_ (by omega) (Nat.le_refl _); (repeat (with_reducible refine Ints.set_ ?_ (by omega) _)); with_reducible exact D9.out)
        · show Ints _ _ _ _ _ _
          first
            | (refine Ints.more (lo := w4.heap.size + 1) (hi := wx.heap.size) ?_ (by omega) (Nat.le_refl _); with_reducible exact Ints.alloc E9.out (Nat.le_refl _) _)
            | (refine Ints.more (lo := w4.heap.size + 1 + 1) (hi := wx.heap.size) ?_ (by omega) (Nat.le_refl _); (repeat (with_reducible refine Ints.set_ ?_ (by omega) _)); with_reducible exact E9.out)
        · show Ints _ _ _ _ _ _
          first
            | (refine Ints.more (lo := w4.heap.size + 1) (hi := wx.heap.size) ?_ (by omega) (Nat.le_refl _); with_reducible exact Ints.alloc R9.out (Nat.le_refl _) _)
            | (refine Ints.more (lo := w4.heap.size + 1 + 1) (hi := wx.heap.size) ?_ (by omega) (Nat.le_refl _); (repeat (with_reducible refine Ints.set_ ?_ (by omega) _)); with_reducible exact R9.out)
        · show Box _ _ _
          subst hbx
          first
            | with_reducible exact Box.new wx 30 [.slice Ax nx cx, .int .i64 (0), .slice Ax' nx' cx', .int .i64 (0), .slice Ex mx kx, .int .i64 (0)]
            | (have hx := ((((((ZB.out.put (i := 0) (by simp) (.slice Ax nx cx)).put (i := 1) (by simp) (.int .i64 (0))).put (i := 2) (by simp) (.slice Ax' nx' cx')).put (i := 3) (by simp) (.int .i64 (0))).put (i := 4) (by simp) (.slice Ex mx kx)).put (i := 5) (by simp) (.int .i64 (0))); simpa using hx)
        · first | omega | (simp only [World.size_setCell, World.size_alloc, World.size_drew]; omega)
        clear D9 E9 R9 HBX hbx
        (try clear ZB zr0 zr1 zr2 zr3 zr4 zr5 zf0 zf1 zf2 zf3 zf4 zf5)
        skip
        clear vdl vd0 vd1 vd2 vd3 vd4 vd5
        rintro w5 ⟨HBF, x1, x2, x3, Bx, hbx0, hwx9⟩
        have s5 := HBF.out.size
        have hbxl := Bx.out.lt
        replace d1 := Lib.hid (d1.out.below HBF.out (by omega))
        replace d2 := Lib.hid (d2.out.below HBF.out (by omega))
        replace d3 := Lib.hid (d3.out.below HBF.out (by omega))
        replace Bd := Lib.hid (Bd.out.below HBF.out (by omega))
        replace EB := Lib.hid (below_step HBF.out EB.out (by omega))
        clear HBF
        have vxl := Bx.out.lt
        have vx0 := (Bx.out.2 0 _ rfl).1
        have vx1 := (Bx.out.2 1 _ rfl).1
        have vx2 := (Bx.out.2 2 _ rfl).1
        have vx3 := (Bx.out.2 3 _ rfl).1
        have vx4 := (Bx.out.2 4 _ rfl).1
        have vx5 := (Bx.out.2 5 _ rfl).1
        have vdl := Bd.out.lt
        have vd0 := (Bd.out.2 0 _ rfl).1
        have vd1 := (Bd.out.2 1 _ rfl).1
        have vd2 := (Bd.out.2 2 _ rfl).1
        have vd3 := (Bd.out.2 3 _ rfl).1
        have vd4 := (Bd.out.2 4 _ rfl).1
        have vd5 := (Bd.out.2 5 _ rfl).1
        go_wp2
        go_ret
        exact ⟨rfl, EB.out⟩
    · obtain ⟨ho, hr0⟩ := wb_room hg ZK.out hk16
      have HO := Lib.hid ho; have RZ := Lib.hid hr0
      clear ho hr0
      clear hg
      have CALL : Hid (∀ (X : World) (b : Nat), Below w4.heap.size w4 X → b < X.heap.size → Ints X b (b + 1) (some ⟨b, 0, none⟩) k (List.replicate k 0) → Calls Tryd.prog 16 #[.agg #[.slice Ad nd cd, .int .i64 (pd), .slice Ad' nd' cd', .int .i64 (qd), .slice Ed md kd, .int .i64 (yd)], .slice (some ⟨b, 0, none⟩) k k] X (PostRII Dd pd Sd qd (Rd ++ List.replicate k 0) yd (k : Int) 0 X)) := by
        intro X b hX hbX hI
        have sX := hX.size
        exact to_rii (WriteBytes_x ((HE.below EB.out (Nat.le_refl _)).below hX EB.out.size) (by have := EB.out.size; omega) (d1.out.below hX (by omega)) (d2.out.below hX (by omega)) (d3.out.below hX (by omega)) hI (by omega) (by omega) (by omega) (by omega) hcd hcd' hkd (Nat.le_refl _) (by omega) (by omega) (by omega) (by omega)) HO.out
      have vdl := Bd.out.lt
      have vd0 := (Bd.out.2 0 _ rfl).1
      have vd1 := (Bd.out.2 1 _ rfl).1
      have vd2 := (Bd.out.2 2 _ rfl).1
      have vd3 := (Bd.out.2 3 _ rfl).1
      have vd4 := (Bd.out.2 4 _ rfl).1
      have vd5 := (Bd.out.2 5 _ rfl).1
      go_wp2_with fail
      go_region_law (first | (go_simp; go_at_call 16; (with_reducible refine (CALL.out _ _ (by go_grown) (by first | omega | (simp; omega) | (simp; done)) (by first | exact made_ints _ k (by omega) | (have h := (made_ints (w4.alloc (.cells #[.slice none 0 0, .int .i64 0, .slice none 0 0, .int .i64 0, .slice none 0 0, .int .i64 0] 30)) k (by omega)).drew; simp only [World.size_alloc] at h; exact h) | exact (made_ints _ k (by omega)).drew | exact ((made_ints _ k (by omega)).alloc (by simp) _) | exact ((made_ints _ k (by omega)).alloc (by simp) _).drew)).mono ?_); rintro e wx ⟨Ax, nx, cx, Ax', nx', cx', Ex, mx, kx, rfl, ⟨hcx, hcx', hkx⟩, hb, hd, hd', hr⟩; have sx0 := hb.size; (try simp only [World.size_alloc, World.size_setCell, World.size_drew] at sx0); have HBX : Hid (Below w4.heap.size w4 wx) := below_step hb (by go_grown) (by first | omega | (simp; omega) | (simp; done)); (first | (have ZB : Hid (Box wx (w4.heap.size + 1) [.slice none 0 0, .int .i64 0, .slice none 0 0, .int .i64 0, .slice none 0 0, .int .i64 0]) := (by show Box _ _ _; first | (have hx := Box.below (Box.new (w4.alloc (.cells (madeCells #[.int .i64 0] k) 3)) 30 [.slice none 0 0, .int .i64 0, .slice none 0 0, .int .i64 0, .slice none 0 0, .int .i64 0]) hb (by first | omega | (simp; omega) | (simp; done)); first | exact hx | simpa using hx) | (have hx := Box.below (Box.drew (Box.new (w4.alloc (.cells (madeCells #[.int .i64 0] k) 3)) 30 [.slice none 0 0, .int .i64 0, .slice none 0 0, .int .i64 0, .slice none 0 0, .int .i64 0])) hb (by first | omega | (simp; omega) | (simp; done)); first | exact hx | simpa using hx)); obtain ⟨bx, hbx⟩ : ∃ bx : Nat, bx = w4.heap.size + 1 := ⟨_, rfl⟩; have zr0 := (ZB.out.2 0 _ rfl).1; have zr1 := (ZB.out.2 1 _ rfl).1; have zr2 := (ZB.out.2 2 _ rfl).1; have zr3 := (ZB.out.2 3 _ rfl).1; have zr4 := (ZB.out.2 4 _ rfl).1; have zr5 := (ZB.out.2 5 _ rfl).1; have zf0 := (ZB.out.2 0 _ rfl).2; have zf1 := (ZB.out.2 1 _ rfl).2; have zf2 := (ZB.out.2 2 _ rfl).2; have zf3 := (ZB.out.2 3 _ rfl).2; have zf4 := (ZB.out.2 4 _ rfl).2; have zf5 := (ZB.out.2 5 _ rfl).2) | (have ZB : Hid (Box wx (w4.heap.size) [.slice none 0 0, .int .i64 0, .slice none 0 0, .int .i64 0, .slice none 0 0, .int .i64 0]) := (by show Box _ _ _; first | (have hx := Box.below ((Box.new w4 30 [.slice none 0 0, .int .i64 0, .slice none 0 0, .int .i64 0, .slice none 0 0, .int .i64 0]).alloc (.cells (madeCells #[.int .i64 0] k) 3)) hb (by first | omega | (simp; omega) | (simp; done)); first | exact hx | simpa using hx) | (have hx := Box.below (Box.drew ((Box.new w4 30 [.slice none 0 0, .int .i64 0, .slice none 0 0, .int .i64 0, .slice none 0 0, .int .i64 0]).alloc (.cells (madeCells #[.int .i64 0] k) 3))) hb (by first | omega | (simp; omega) | (simp; done)); first | exact hx | simpa using hx)); obtain ⟨bx, hbx⟩ : ∃ bx : Nat, bx = w4.heap.size := ⟨_, rfl⟩; have zr0 := (ZB.out.2 0 _ rfl).1; have zr1 := (ZB.out.2 1 _ rfl).1; have zr2 := (ZB.out.2 2 _ rfl).1; have zr3 := (ZB.out.2 3 _ rfl).1; have zr4 := (ZB.out.2 4 _ rfl).1; have zr5 := (ZB.out.2 5 _ rfl).1; have zf0 := (ZB.out.2 0 _ rfl).2; have zf1 := (ZB.out.2 1 _ rfl).2; have zf2 := (ZB.out.2 2 _ rfl).2; have zf3 := (ZB.out.2 3 _ rfl).2; have zf4 := (ZB.out.2 4 _ rfl).2; have zf5 := (ZB.out.2 5 _ rfl).2) | (obtain ⟨bx, hbx⟩ : ∃ bx : Nat, bx = wx.heap.size := ⟨_, rfl⟩)); (try simp only [World.size_alloc, World.size_setCell, World.size_drew] at hd hd' hr); have D9 := Lib.hid hd; have E9 := Lib.hid hd'; have R9 := Lib.hid hr; clear hd hd' hr hb))
      all_goals
        rw [← hbx]
        refine wp_renameK (fun w9 => Hid (Below w4.heap.size w4 w9) ∧ Hid (Ints w9 w4.heap.size wx.heap.size Ax nx Dd) ∧ Hid (Ints w9 w4.heap.size wx.heap.size Ax' nx' Sd) ∧ Hid (Ints w9 w4.heap.size wx.heap.size Ex mx (Rd ++ List.replicate k 0)) ∧ Hid (Box w9 bx [.slice Ax nx cx, .int .i64 (pd), .slice Ax' nx' cx', .int .i64 (qd), .slice Ex mx kx, .int .i64 (yd)]) ∧ w4.heap.size ≤ bx ∧ wx.heap.size ≤ w9.heap.size) ⟨?_, ?_, ?_, ?_, ?_, by omega, ?_⟩ ?_
        · show Below _ _ _
          repeat (first | (with_reducible refine below_set ?_ (by omega) _) | (with_reducible refine Below.alloc ?_ (by omega) _) | (with_reducible refine Below.drew ?_))
          exact HBX.out
        · show Ints _ _ _ _ _ _
          first
            | (refine Ints.more (lo := w4.heap.size + 1) (hi := wx.heap.size) ?_ (by omega) (Nat.le_refl _); with_reducible exact Ints.alloc D9.out (Nat.le_refl _) _)
            | (refine Ints.more (lo := w4.heap.size + 1 + 1) (hi := wx.heap.size) ?_ (by omega) (Nat.le_refl _); (repeat (with_reducible refine Ints.set_ ?_ (by omega) _)); with_reducible exact D9.out)
        · show Ints _ _ _ _ _ _
          first
            | (refine Ints.more (lo := w4.heap.size + 1) (hi := wx.heap.size) ?_ (by omega) (Nat.le_refl _); with_reducible exact Ints.alloc E9.out (Nat.le_refl _) _)
            | (refine Ints.more (lo := w4.heap.size + 1 + 1) (hi := wx.heap.size) ?_ (by omega) (Nat.le_refl _); (repeat (with_reducible refine Ints.set_ ?_ (by omega) _)); with_reducible exact E9.out)
        · show Ints _ _ _ _ _ _
          first
            | (refine Ints.more (lo := w4.heap.size + 1) (hi := wx.heap.size) ?_ (by omega) (Nat.le_refl _); with_reducible exact Ints.alloc R9.out (Nat.le_refl _) _)
            | (refine Ints.more (lo := w4.heap.size + 1 + 1) (hi := wx.heap.size) ?_ (by omega) (Nat.le_refl _); (repeat (with_reducible refine Ints.set_ ?_ (by omega) _)); with_reducible exact R9.out)
        · show Box _ _ _
          subst hbx
          first
            | with_reducible exact Box.new wx 30 [.slice Ax nx cx, .int .i64 (pd), .slice Ax' nx' cx', .int .i64 (qd), .slice Ex mx kx, .int .i64 (yd)]
            | (have hx := ((((((ZB.out.put (i := 0) (by simp) (.slice Ax nx cx)).put (i := 1) (by simp) (.int .i64 (pd))).put (i := 2) (by simp) (.slice Ax' nx' cx')).put (i := 3) (by simp) (.int .i64 (qd))).put (i := 4) (by simp) (.slice Ex mx kx)).put (i := 5) (by simp) (.int .i64 (yd))); simpa using hx)
        · first | omega | (simp only [World.size_setCell, World.size_alloc, World.size_drew]; omega)
        clear D9 E9 R9 HBX hbx
        (try clear ZB zr0 zr1 zr2 zr3 zr4 zr5 zf0 zf1 zf2 zf3 zf4 zf5)
        skip
        clear vdl vd0 vd1 vd2 vd3 vd4 vd5
        rintro w5 ⟨HBF, x1, x2, x3, Bx, hbx0, hwx9⟩
        have s5 := HBF.out.size
        have hbxl := Bx.out.lt
        replace d1 := Lib.hid (d1.out.below HBF.out (by omega))
        replace d2 := Lib.hid (d2.out.below HBF.out (by omega))
        replace d3 := Lib.hid (d3.out.below HBF.out (by omega))
        replace Bd := Lib.hid (Bd.out.below HBF.out (by omega))
        replace EB := Lib.hid (below_step HBF.out EB.out (by omega))
        clear HBF
        have vxl := Bx.out.lt
        have vx0 := (Bx.out.2 0 _ rfl).1
        have vx1 := (Bx.out.2 1 _ rfl).1
        have vx2 := (Bx.out.2 2 _ rfl).1
        have vx3 := (Bx.out.2 3 _ rfl).1
        have vx4 := (Bx.out.2 4 _ rfl).1
        have vx5 := (Bx.out.2 5 _ rfl).1
        have vdl := Bd.out.lt
        have vd0 := (Bd.out.2 0 _ rfl).1
        have vd1 := (Bd.out.2 1 _ rfl).1
        have vd2 := (Bd.out.2 2 _ rfl).1
        have vd3 := (Bd.out.2 3 _ rfl).1
        have vd4 := (Bd.out.2 4 _ rfl).1
        have vd5 := (Bd.out.2 5 _ rfl).1
        go_wp2_with fail
        trace_state
        refine (to_intN (RoomOf_x x1.out x2.out x3.out (by omega) (by omega) (by omega) hcx) RZ.out).mono ?_
        clear vxl vx0 vx1 vx2 vx3 vx4 vx5 vdl vd0 vd1 vd2 vd3 vd4 vd5
        rintro e w6 ⟨rfl, hb⟩
        (try simp only [World.size_alloc, World.size_setCell, World.size_drew] at hb)
        have HB := Lib.hid hb
        clear hb
        have s6 := HB.out.size
        (try simp only [World.size_alloc, World.size_setCell, World.size_drew] at s6)
        replace d1 := Lib.hid (d1.out.below HB.out (by omega))
        replace d2 := Lib.hid (d2.out.below HB.out (by omega))
        replace d3 := Lib.hid (d3.out.below HB.out (by omega))
        replace Bd := Lib.hid (Bd.out.below HB.out (by omega))
        replace x1 := Lib.hid (x1.out.below HB.out (by omega))
        replace x2 := Lib.hid (x2.out.below HB.out (by omega))
        replace x3 := Lib.hid (x3.out.below HB.out (by omega))
        replace Bx := Lib.hid (Bx.out.below HB.out (by omega))
        replace EB := Lib.hid (below_step HB.out EB.out (by omega))
        clear HB
        have vxl := Bx.out.lt
        have vx0 := (Bx.out.2 0 _ rfl).1
        have vx1 := (Bx.out.2 1 _ rfl).1
        have vx2 := (Bx.out.2 2 _ rfl).1
        have vx3 := (Bx.out.2 3 _ rfl).1
        have vx4 := (Bx.out.2 4 _ rfl).1
        have vx5 := (Bx.out.2 5 _ rfl).1
        have vdl := Bd.out.lt
        have vd0 := (Bd.out.2 0 _ rfl).1
        have vd1 := (Bd.out.2 1 _ rfl).1
        have vd2 := (Bd.out.2 2 _ rfl).1
        have vd3 := (Bd.out.2 3 _ rfl).1
        have vd4 := (Bd.out.2 4 _ rfl).1
        have vd5 := (Bd.out.2 5 _ rfl).1
        go_wp2
        go_ret
        exact ⟨rfl, EB.out⟩
theorem contract (H : Type) (enc : TypeId × Value → H) (W : World) (base : Nat) (args : Array Value) (ds gs : List (DataW H)) (before : List MemPlace)
    (hval : ∀ (j : Nat) t v, Tryd.f11.params[j]? = some t → args[j]? = some v → Value.okWide Tryd.prog W .any base t v)
    (hW : DataW.Whole enc Tryd.prog Tryd.f11.params.toList Rows.fnRoomOfSpec.vars false W args.toList ds gs before) (hL : laidMetH Tryd.prog laid3 W) :
    Calls Tryd.prog 11 args W fun e W' => ∃ v, e = .returned v ∧ Rows.fnRoomOfSpec.post enc Tryd.prog Tryd.f11 false true false false W args v W' := by
  have hW' := hW
  have hlt : ∀ p ∈ before, p.block < W.heap.size := fun p hp => hW.lt p hp
  obtain ⟨p, q, hA0, hV0, rfl, hfz, hnd⟩ := hW
  have hA : DataW.TrodAll enc Tryd.prog W 0 (fun _ => true) true Tryd.f11.params.toList args.toList ds p := hA0
  have hV : DataW.TrodVars enc Tryd.prog W (fun _ => true) ["loop.example/streamlayers/impl.errNone", "loop.example/streamlayers/impl.errFault", "loop.example/streamlayers/impl.errFull"] gs q := hV0
  rw [Tryd.params11] at hA hval
  obtain ⟨v0, vs0, d0, ds0, p0, q0, hargs, rfl, rfl, h0, r0⟩ := trodAll_cons hA
  obtain ⟨rfl, rfl, rfl⟩ := trodAll_nil r0
  obtain rfl : args = #[v0] := by cases args; simp_all
  obtain ⟨a0, a1, a2, ⟨hv0, hv1, hv2⟩, ⟨n01, n02, n12⟩, w0, w1, w2⟩ := laid3_gives hL
  have hE := errs_of hv0 hv1 hv2 n01 n02 n12 w0 w1 w2
  have lt0 := hE.1.1.1
  have lt1 := hE.1.1.2.1
  have lt2 := hE.1.1.2.2
  have vr : ∀ {X : World}, Below W.heap.size W X → ∀ sp : Nat → Bool, DataW.TrodVars enc Tryd.prog X sp ["loop.example/streamlayers/impl.errNone", "loop.example/streamlayers/impl.errFault", "loop.example/streamlayers/impl.errFull"] [tok enc (errAt a0), tok enc (errAt a1), tok enc (errAt a2)] [.cell 0 0, .cell 1 0, .cell 2 0] := fun hb sp => vars_read3 enc (var?_below hb (by kernel_rfl) lt0 hv0) (var?_below hb (by kernel_rfl) lt1 hv1) (var?_below hb (by kernel_rfl) lt2 hv2) trivial trivial trivial sp
  obtain ⟨rfl, rfl⟩ := hV.unique (vr (Below.refl _ _) _)
  obtain ⟨A, n, c, rfl, hnc, hby, hmx⟩ := arg_bytes (hval 0 _ v0 rfl rfl) h0 (fun p hp => hlt p (by simp [hp]))
  refine (walk A n c W hby hnc hmx hE).mono fun e W' hh => ?_
  obtain ⟨rfl, hb⟩ := hh
  exact ⟨_, rfl, law_postV laidOut (tys_of (by rw [Tryd.params11]; kernel_rfl)) hW' (fun sp => vr hb sp) rfl rfl Tryd.underlying4 hb⟩

set_option maxRecDepth 100000 in
theorem lifted (os : Os) (started : os.Started) (H : Type) (enc : TypeId × Value → H) :
    ReturnsInHanded {} Tryd.checked os 11 .any (fun w args => (Rows.fnRoomOfSpec.pre enc Tryd.prog Tryd.f11 [] false w args ∧ laidMetH Tryd.prog laid3 w) ∧ sizedMet enc Tryd.prog Tryd.f11 (OpenSpec.ofChange Rows.fnRoomOfSpec) false w args) (Rows.fnRoomOfSpec.post enc Tryd.prog Tryd.f11 false true false false) := by
  refine returnsInHanded_of_change_and (C := Tryd.checked) (X := fun w _ => laidMetH Tryd.prog laid3 w) (fun _ _ _ hh h => h.of_heap hh) own started (by kernel_rfl) Tryd.func11
    (ChangeSpec.witness_shaped (enc := enc) (C := Tryd.checked) (os := os) (X := fun w _ => laidMetH Tryd.prog laid3 w) false (World.doorLaid Tryd.prog 85 os) #[.slice none 0 0] 8 rfl (World.shaped_of_RefB (by kernel_rfl) (by kernel_rfl)) (by kernel_rfl) (by kernel_rfl) (by kernel_rfl) (door_met3 os _)) ?_
  intro W base args ds gs before hval hW _ _ hL _
  exact contract H enc W base args ds gs before hval hW hL

theorem row : Rows.FnRoomOfSaid :=
  OpenClaim.holds_of_wide 11 Tryd.f11 rfl rfl rfl rfl rfl rfl rfl ⟨rfl, rfl, rfl, rfl, rfl⟩ rfl rfl rfl rfl rfl (by kernel_rfl) Tryd.func11 (by kernel_rfl)
    (of_decide_eq_true (by kernel_rfl)) (by unfold Func.isWrapper; first | (rw [if_pos (by decide +kernel)]; kernel_rfl) | (rw [if_neg (by decide +kernel)]; exact ⟨rfl, rfl⟩))
    (fun os started H enc _ => lifted os started H enc)

theorem holds : Rows.FnRoomOfCardSaid :=
  Claim7.holds_tied_plain_at .later [] [.sentinel, .sentinel, .sentinel] true _ true
    row (fun _ h => by cases h) (by kernel_rfl) (fun _ h => by cases h) fnRoomOf_row_tie rfl ⟨rfl, rfl⟩ (by kernel_rfl) rfl
    (fun f fn hf hfn => by
      obtain rfl : f = 11 := Option.some.inj ((show Tryd.prog.funcNamed "loop.example/streamlayers/laws.FnRoomOf" = some 11 by kernel_rfl).symm.trans hf) |>.symm
      obtain rfl : fn = Tryd.f11 := (Option.some.inj (Tryd.func11.symm.trans hfn)).symm
      exact ⟨by kernel_rfl, fun j t ht => by
        have hm : t ∈ Tryd.f11.params.toList := Array.mem_toList_iff.2 (Array.mem_of_getElem? ht)
        have hall : (Tryd.f11.params.toList.all fun t => !(Tryd.prog.wantsStandIn t)) = true := by kernel_rfl
        have h9 := List.all_eq_true.1 hall t hm
        show Tryd.prog.wantsStandIn t = false
        simpa using h9⟩)
    (by kernel_rfl)
end LawRoomOf
end Go.Proofs.YtdiebkaedjlckaaDoor
