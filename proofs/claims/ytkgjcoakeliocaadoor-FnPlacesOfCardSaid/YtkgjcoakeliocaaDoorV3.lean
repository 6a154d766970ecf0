/- impl's iterator over the points of bytes: what it gives. -/
import Derived.RangeFuncNested
import Derived.RangeFuncBound
import Derived.RangeFuncCalls
import Derived.RangeFuncLeaves
import Derived.RangeFuncBox
import Derived.Shelf.Abstract
import Derived.Shelf.RegionOpen
import Derived.OwnWalkIn
import Derived.TacticsInMore
import Derived.LoopNIn
import Derived.LoopIn
import Derived.Maps.AppendAt
import Derived.Test.YtkgjcoakeliocaaDoorV2
namespace Go.Proofs.YtkgjcoakeliocaaDoor
open Go.ChangeShapes Go.WideShapes Go.ChangeAt Go.RowKit Go.Shelf
set_option linter.unusedSimpArgs false
set_option linter.unusedVariables false
set_option maxRecDepth 100000
attribute [local go_sem] Oper.semAt_some

/-- A point with the index where it begins. -/
abbrev Pt : Type := { x : Nat × Int // x.1 ≤ 60 ∧ ptOk x.2 }
def encPt (x : Pt) : Array Value := #[.int .i64 (x.1.1 : Int), .int .i32 x.1.2]
def KpP (n₀ Bs : Nat) (W W' : World) : Prop := Below n₀ W W' ∧ W'.heap[Bs]? = W.heap[Bs]?
theorem KpP.t {n₀ Bs : Nat} {A B C : World} (h : KpP n₀ Bs A B) (k : KpP n₀ Bs B C) : KpP n₀ Bs A C := ⟨h.1.trans k.1, k.2.trans h.2⟩
theorem KpP.b {n₀ Bs : Nat} {w : World} (hn : n₀ ≤ w.heap.size) (hb : Bs < w.heap.size) (W : World) (l : Nat) (o o' : Obj) (hl : w.heap.size ≤ l) (h : W.heap[l]? = some o) (h1 : o.isCells = false) (h2 : o.isWalk = false) : KpP n₀ Bs W (W.putObj l o') :=
  ⟨belowK_b hn W l o o' hl h h1 h2, World.putObj_heap_other (by omega)⟩
theorem grown_of_below {W W' : World} (h : Below W.heap.size W W') : W.grownBy W' none := ⟨h.os, h.tape, h.output, h.size, fun k hk _ => h.block k hk⟩
theorem cell_of_block {W W' : World} {b o : Nat} (h : W'.heap[b]? = W.heap[b]?) : W'.cell? ⟨b, o, none⟩ = W.cell? ⟨b, o, none⟩ := World.cell?_of_block (w := W) (a := ⟨b, o, none⟩) h

/-- At most 61 bytes. -/
def bytes1 (xs : List Int) : Prop := xs.length ≤ 61 ∧ allB xs 0 255 = true
theorem bytes1_of {xs : List Int} (h : bytesB xs = true) : bytes1 xs := ⟨by have := bytesB_le h; omega, bytesB_all h⟩
theorem seq_step {xs : List Int} {k : Nat} (h : k < xs.length) : seqP k (xs.drop k) = (k, fpt (xs.drop k)) :: seqP (k + fsz (xs.drop k)) (xs.drop (k + fsz (xs.drop k))) := by
  have hne : xs.drop k ≠ [] := by
    intro e
    have := congrArg List.length e
    rw [List.length_drop] at this
    simp at this; omega
  rw [seqP_step hne, List.drop_drop]
theorem fsz_in {xs : List Int} {k : Nat} (h : k < xs.length) : k + fsz (xs.drop k) ≤ xs.length := by
  have hne : xs.drop k ≠ [] := by
    intro e
    have := congrArg List.length e
    rw [List.length_drop] at this
    simp at this; omega
  have := fsz_le hne
  rw [List.length_drop] at this
  omega

set_option maxHeartbeats 4000000 in
theorem points1_in (n : Nat) (hn : 3 ≤ n) (l Bs n₀ : Nat) {A : Option Addr} {ln c L B : Nat} {xs : List Int} (hnc : ln ≤ c) (hd : bytes1 xs) (hB : B ≤ n₀) (hg : 0 < n₀) (J Jx : List Pt → World → Prop) (W : World) (hJ : AbidesFrom W.heap.size J)
    (hY : ∀ pre x W, J pre W → pre.length < xs.length → YieldAt Fence.wide (n - 1) Tryd.prog l (encPt x) W fun e W' =>
      (e = .returned (.bool true) ∧ J (pre ++ [x]) W' ∧ KpP n₀ Bs W W') ∨ (e = .returned (.bool false) ∧ Jx (pre ++ [x]) W'))
    (hn₀ : n₀ ≤ W.heap.size) (hBl : Bs < W.heap.size) (hBs : W.cell? ⟨Bs, 0, none⟩ = some (.slice A ln c)) (hI : Ints W L B A ln xs) (hT : Tab W) (h0 : J [] W) :
    CallsIn Fence.wide n Tryd.prog 72 #[.func (.yield l) #[] #[], .pointer (some ⟨Bs, 0, none⟩)] W fun e W' => (∃ v, e = .returned v) ∧
      ((∃ ys : List Pt, ys.map (·.1) = seqP 0 xs ∧ J ys W') ∨ (∃ pre : List Pt, pre.map (·.1) <+: seqP 0 xs ∧ Jx pre W')) := by
  have HL := Lib.hid hI.len
  have h60 : ln ≤ 61 := by rw [HL.out]; exact hd.1
  have HA := Lib.hid hd.2
  have HI := Lib.hid hI
  have HT := Lib.hid hT
  clear hd hI hT
  refine callsIn_of_wp Tryd.func72 rfl trivial ?_ rfl
  simp only [Tryd.ntmps72, List.size_toArray, List.length_cons, List.length_nil, Nat.reduceAdd, Nat.reduceSub, Array.replicate_succ, Array.replicate_zero, List.push_toArray, List.append_toArray, List.nil_append, List.cons_append]
  gi_wp2
  gi_loopw [3] (fun i wr => ∃ (k : Nat) (pre : List Pt), i = .int .i64 k ∧ k ≤ ln ∧ Hid (pre.map (·.1) ++ seqP k (xs.drop k) = seqP 0 xs) ∧ J pre wr ∧ Hid (KpP n₀ Bs W wr) ∧ W.heap.size ≤ wr.heap.size)
    (fun i _ => ln - (intOf i).toNat)
  case atStart => exact ⟨0, [], rfl, Nat.zero_le _, rfl, h0, ⟨Below.refl _ _, rfl⟩, Nat.le_refl _⟩
  case round =>
    obtain ⟨k, pre, rfl, hk, HP, hJs, HK, hsz⟩ := hrel
    have hc : wr.cell? ⟨Bs, 0, none⟩ = some (.slice A ln c) := (cell_of_block HK.out.2).trans hBs
    by_cases hlt : k < ln
    · have hltI : (k : Int) < (ln : Int) := by omega
      have hxl : k < xs.length := by have := HL.out; omega
      have HS := Lib.hid (seq_step hxl)
      have hfz := fsz_cases (xs.drop k)
      have hfl : k + fsz (xs.drop k) ≤ ln := by have := fsz_in hxl; have := HL.out; omega
      have hpt := fpt_ok (allB_drop HA.out k)
      have hpl : pre.length < xs.length := by
        have h1 := congrArg List.length HP.out
        rw [HS.out] at h1
        have h2 := seqP_len xs 0
        simp at h1
        omega
      have hID := Lib.hid (((HI.out.below HK.out.1 hB).drop (a := k) (by omega)))
      have hTw : Tab wr := HT.out.keep HK.out.1 hg
      have HTw := Lib.hid hTw
      clear hTw
      have hcne : ¬ c = k := by omega
      gi_wp2_with (refine ⟨trivial, fun _ => by omega, ?_⟩; gi_at_call 73; refine (callsIn_wide.2 (firstPoint_any (ys := xs.drop k) (n := ln - k) hID.out (by omega) (by omega) (allB_drop HA.out k) HTw.out)).mono ?_; rintro e w1 ⟨rfl, hb1⟩)
      have s1 := hb1.size
      have HK1 : Hid (KpP n₀ Bs W w1) := HK.out.t ⟨hb1.mono (by omega), hb1.block Bs (by omega)⟩
      have hJ1 : J pre w1 := hJ pre wr w1 none hJs (grown_of_below hb1) (fun r e => by cases e)
      have hsz1 : W.heap.size ≤ w1.heap.size := Nat.le_trans hsz s1
      clear hJs hb1
      generalize fpt (xs.drop k) = p at *
      generalize fsz (xs.drop k) = z at *
      obtain ⟨fn, tmps, assign, body, hy, hR⟩ := hY pre ⟨(k, p), by omega, hpt⟩ w1 hJ1 hpl
      dsimp only [encPt] at hy
      have hc1 : w1.cell? ⟨Bs, 0, none⟩ = some (.slice A ln c) := (cell_of_block HK1.out.2).trans hBs
      clear hc
      rw [hy]
      gi_wp2
      refine ⟨fun _ => by omega, hR.mono ?_⟩
      rintro e w3 (⟨rfl, hJ3, hk3⟩ | ⟨rfl, hJx3⟩)
      · have HK3 : Hid (KpP n₀ Bs W w3) := HK1.out.t hk3
        have hsz3 : W.heap.size ≤ w3.heap.size := Nat.le_trans hsz1 hk3.1.size
        gi_wp2
        go_roundw
        case rel => exact ⟨k + z, _, by go_num, hfl, by show _ = _; rw [← HP.out, HS.out]; simp, hJ3, HK3, hsz3⟩
        case measure => simp [intOf]; omega
      · gi_wp2
        refine bodyPost_ret (results_none rfl _ _ _) rfl ?_
        refine ⟨⟨_, rfl⟩, .inr ⟨_, ?_, hJx3⟩⟩
        rw [← HP.out, HS.out]
        exact ⟨seqP (k + z) (xs.drop (k + z)), by simp⟩
    · obtain rfl : k = ln := by omega
      gi_wp2
      go_end0
      refine ⟨⟨_, rfl⟩, .inl ⟨pre, ?_, hJs⟩⟩
      have h1 := HP.out
      rw [List.drop_of_length_le (by have := HL.out; omega)] at h1
      simpa [seqP] using h1

theorem points_stops (n : Nat) (hn : 3 ≤ n) (Bs n₀ : Nat) {A : Option Addr} {ln c L B : Nat} {xs : List Int} {w : World} (hnc : ln ≤ c) (hd : bytes1 xs) (hB : B ≤ n₀) (hg : 0 < n₀) (hn₀ : n₀ ≤ w.heap.size) (hBl : Bs < w.heap.size)
    (hBs : w.cell? ⟨Bs, 0, none⟩ = some (.slice A ln c)) (hI : Ints w L B A ln xs) (hT : Tab w) :
    SeqStopsK Fence.wide n Tryd.prog 72 #[.pointer (some ⟨Bs, 0, none⟩)] encPt (KpP n₀ Bs) (fun ys => ys.map (·.1) = seqP 0 xs) (fun pre => pre.map (·.1) <+: seqP 0 xs) xs.length w := fun l J Jx W hW hJ _ hY h0 =>
  points1_in n hn l Bs n₀ hnc hd hB hg J Jx W hJ hY (by have := hW.size; omega) (by have := hW.size; omega) ((hW.cell (p := ⟨Bs, 0, none⟩) hBl).trans hBs) (hI.below hW (by omega)) (hT.keep hW (by omega)) h0
theorem pointsOf_any {A : Option Addr} {n c : Nat} {w : World} :
    Calls Tryd.prog 52 #[.slice A n c] w fun e w' => e = .returned (.func (.func 72) #[] #[.pointer (some ⟨w.heap.size, 0, none⟩)]) ∧ w' = w.alloc (.cells #[.slice A n c] 23) := by
  go_enter Tryd.func52, Tryd.ntmps52
  go_wp2
  go_ret
  exact ⟨rfl, rfl⟩
end Go.Proofs.YtkgjcoakeliocaaDoor
