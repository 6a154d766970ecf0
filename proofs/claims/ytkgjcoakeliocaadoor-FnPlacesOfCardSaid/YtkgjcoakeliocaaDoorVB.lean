/- The table of borders as a law's premise; the contracts as the laws' texts take them. -/
import Derived.Test.YtkgjcoakeliocaaDoorVA
import Derived.Test.YtkgjcoakeliocaaDoorL4
import Derived.Test.YtkgjcoakeliocaaDoorLawBase
import Derived.LaidMore
import Derived.Stop.LaidErr
import Derived.Stop.Joined
import Derived.WalkSmall
import Derived.SevenTiedAt
namespace Go.Proofs.YtkgjcoakeliocaaDoor
open Go.ChangeShapes Go.WideShapes Go.ChangeAt Go.RowKit
set_option linter.unusedSimpArgs false
set_option linter.unusedVariables false
set_option maxRecDepth 100000

theorem dsR_le (m : Int) (f : Bool) (xs : List Int) (lead : Int) : (dsR m f xs lead).1.length ≤ 122 := by
  cases h : dsOk xs lead m
  · rw [ds_no h]; simp
  · rw [ds_yes h]
    have hd : bytesB xs = true ∧ waitB lead = true := by unfold dsOk at h; rw [Bool.and_eq_true, Bool.and_eq_true] at h; exact ⟨h.1, h.2.1⟩
    have hl := bytesB_le hd.1
    have key : ∀ ys : List Int, ys.length ≤ 61 → (sm m f ys 0).1.length ≤ 122 := fun ys hy => by
      cases f
      · rw [sm_wait m _ _ (Nat.le_refl _)]
        have h1 := decB_len m (body ys)
        have h2 : (body ys).length ≤ ys.length := by
          unfold body
          split
          · exact Nat.le_refl _
          · rw [List.length_take]; omega
        show (decB m (body ys)).1.length ≤ 122
        omega
      · rw [sm_dec m _ _ (Nat.le_refl _)]
        have h1 := decB_len m ys
        show (decB m ys).1.length ≤ 122
        omega
    by_cases h0 : lead = 0
    · subst h0; exact key xs (by omega)
    · rw [sm_ahead (wait_zero hd.2 h0)]; exact key _ (by simp; omega)
theorem encOut_le (xs : List Int) : (encOut xs).length ≤ 122 := by
  unfold encOut
  split
  · rename_i h
    unfold ptsB at h
    rw [Bool.and_eq_true] at h
    have h1 : xs.length ≤ 60 := by simpa using h.1
    have := encL_len xs
    omega
  · simp
theorem plOut_le (xs : List Int) : (plOut xs).length ≤ 122 := by
  unfold plOut
  split
  · rename_i h
    have h1 := bytesB_le h
    have h2 := seqP_len xs 0
    unfold plL
    rw [List.length_map]
    omega
  · simp
theorem arg_boolq {H : Type} {enc : TypeId × Value → H} {W : World} {base : Nat} {v : Value} {d : DataW H} {p0 : List MemPlace} (hval : Value.okWide Tryd.prog W .any base 4 v) (h : DataW.Trod enc Tryd.prog W 0 (fun _ => true) true 4 v d p0) :
    ∃ b : Bool, v = .bool b := by
  obtain ⟨b, rfl, _, _⟩ := Go.RowKit.open_bool Tryd.underlying4 hval h
  exact ⟨b, rfl⟩
theorem EncodePoints_x {A : Option Addr} {n c : Nat} {xs : List Int} {w : World} {L B : Nat} (h : Ints w L B A n xs) (hB : B ≤ w.heap.size) (hnc : n ≤ c) (hn : n ≤ 1048576) (hT : Tab w) : Calls Tryd.prog 17 #[.slice A n c] w (ListPost (encOut xs) w) := EncodePoints_any h hB hT
theorem SEncodePoints_x {A : Option Addr} {n c : Nat} {xs : List Int} {w : World} {L B : Nat} (h : Ints w L B A n xs) (hB : B ≤ w.heap.size) (hnc : n ≤ c) (hn : n ≤ 1048576) (hT : Tab w) : Calls Tryd.prog 20 #[.slice A n c] w (ListPost (encOut xs) w) := SEncodePoints_any h hB
theorem DecodeSome_x {A : Option Addr} {n c : Nat} {xs : List Int} {w : World} {L B : Nat} {z1 z3 : Int} {f2 : Bool} (h : Ints w L B A n xs) (hB : B ≤ w.heap.size) (hnc : n ≤ c) (hn : n ≤ 1048576) (h1 : okInt z1) (h3 : okInt z3) (hT : Tab w) : Calls Tryd.prog 24 #[.slice A n c, .int .i64 z1, .bool f2, .int .i64 z3] w (DsPost (dsR z3 f2 xs z1) w) := DecodeSome_any h hB hnc hT
theorem SDecodeSome_x {A : Option Addr} {n c : Nat} {xs : List Int} {w : World} {L B : Nat} {z1 z3 : Int} {f2 : Bool} (h : Ints w L B A n xs) (hB : B ≤ w.heap.size) (hnc : n ≤ c) (hn : n ≤ 1048576) (h1 : okInt z1) (h3 : okInt z3) (hT : Tab w) : Calls Tryd.prog 25 #[.slice A n c, .int .i64 z1, .bool f2, .int .i64 z3] w (DsPost (dsR z3 f2 xs z1) w) := SDecodeSome_any h hB
theorem DecodeBytes_x {A : Option Addr} {n c : Nat} {xs : List Int} {w : World} {L B : Nat} {z1 : Int} (h : Ints w L B A n xs) (hB : B ≤ w.heap.size) (hnc : n ≤ c) (hn : n ≤ 1048576) (h1 : okInt z1) (hT : Tab w) : Calls Tryd.prog 21 #[.slice A n c, .int .i64 z1] w (ListBPost (dsR z1 true xs 0).1 (dsR z1 true xs 0).2.2 w) := DecodeBytes_any h hB hnc hT
theorem SDecodeBytes_x {A : Option Addr} {n c : Nat} {xs : List Int} {w : World} {L B : Nat} {z1 : Int} (h : Ints w L B A n xs) (hB : B ≤ w.heap.size) (hnc : n ≤ c) (hn : n ≤ 1048576) (h1 : okInt z1) (hT : Tab w) : Calls Tryd.prog 28 #[.slice A n c, .int .i64 z1] w (ListBPost (dsR z1 true xs 0).1 (dsR z1 true xs 0).2.2 w) := SDecodeBytes_any h hB
theorem BadAt_x {A : Option Addr} {n c : Nat} {xs : List Int} {w : World} {L B : Nat} (h : Ints w L B A n xs) (hB : B ≤ w.heap.size) (hnc : n ≤ c) (hn : n ≤ 1048576) (hT : Tab w) : Calls Tryd.prog 22 #[.slice A n c] w (IntB (bdOut xs) w) := BadAt_any h hB hnc hT
theorem SBadAt_x {A : Option Addr} {n c : Nat} {xs : List Int} {w : World} {L B : Nat} (h : Ints w L B A n xs) (hB : B ≤ w.heap.size) (hnc : n ≤ c) (hn : n ≤ 1048576) (hT : Tab w) : Calls Tryd.prog 31 #[.slice A n c] w (IntB (bdOut xs) w) := SBadAt_any h
theorem CountPoints_x {A : Option Addr} {n c : Nat} {xs : List Int} {w : World} {L B : Nat} (h : Ints w L B A n xs) (hB : B ≤ w.heap.size) (hnc : n ≤ c) (hn : n ≤ 1048576) (hT : Tab w) : Calls Tryd.prog 33 #[.slice A n c] w (IntB (cpOut xs) w) := CountPoints_any h hB hnc hT
theorem SCountPoints_x {A : Option Addr} {n c : Nat} {xs : List Int} {w : World} {L B : Nat} (h : Ints w L B A n xs) (hB : B ≤ w.heap.size) (hnc : n ≤ c) (hn : n ≤ 1048576) (hT : Tab w) : Calls Tryd.prog 34 #[.slice A n c] w (IntB (cpOut xs) w) := SCountPoints_any h hB
theorem SyncAt_x {A : Option Addr} {n c : Nat} {xs : List Int} {w : World} {L B : Nat} {z1 : Int} (h : Ints w L B A n xs) (hB : B ≤ w.heap.size) (hnc : n ≤ c) (hn : n ≤ 1048576) (h1 : okInt z1) (hT : Tab w) : Calls Tryd.prog 37 #[.slice A n c, .int .i64 z1] w (IntB (syOut xs z1) w) := SyncAt_any h hB hT
theorem SSyncAt_x {A : Option Addr} {n c : Nat} {xs : List Int} {w : World} {L B : Nat} {z1 : Int} (h : Ints w L B A n xs) (hB : B ≤ w.heap.size) (hnc : n ≤ c) (hn : n ≤ 1048576) (h1 : okInt z1) (hT : Tab w) : Calls Tryd.prog 38 #[.slice A n c, .int .i64 z1] w (IntB (syOut xs z1) w) := SSyncAt_any h
theorem PlacesOf_x {A : Option Addr} {n c : Nat} {xs : List Int} {w : World} {L B : Nat} (h : Ints w L B A n xs) (hB : B ≤ w.heap.size) (hnc : n ≤ c) (hn : n ≤ 1048576) (hT : Tab w) : Calls Tryd.prog 35 #[.slice A n c] w (ListPost (plOut xs) w) := PlacesOf_any h hB hnc hT
theorem SPlacesOf_x {A : Option Addr} {n c : Nat} {xs : List Int} {w : World} {L B : Nat} (h : Ints w L B A n xs) (hB : B ≤ w.heap.size) (hnc : n ≤ c) (hn : n ≤ 1048576) (hT : Tab w) : Calls Tryd.prog 40 #[.slice A n c] w (ListPost (plOut xs) w) := SPlacesOf_any h hB

abbrev laidT : List (String × DataW Unit) := [("loop.example/streamlayers/impl.borders", Rows.laid_loop_example_streamlayers_impl_borders)]
abbrev tabR : Array Value := #[.int .i64 0, .int .i64 1, .int .i64 128, .int .i64 3, .int .i64 192, .int .i64 0, .int .i64 194, .int .i64 2, .int .i64 224, .int .i64 0]
abbrev tabD {H : Type} : DataW H := Rows.laid_loop_example_streamlayers_impl_borders
theorem ten_of {cs : List Value} (h : cs.length = 10) : ∃ c0 c1 c2 c3 c4 c5 c6 c7 c8 c9, cs = [c0, c1, c2, c3, c4, c5, c6, c7, c8, c9] := by
  match cs, h with
  | [c0, c1, c2, c3, c4, c5, c6, c7, c8, c9], _ => exact ⟨c0, c1, c2, c3, c4, c5, c6, c7, c8, c9, rfl⟩
theorem row_of {W : World} {fuel : Nat} {a b : Value} {x : DataW Unit × List MemPlace} {p q : Int} (h : DataW.trod (fun _ => ()) Tryd.prog W 0 (fun _ => true) false fuel 60 [a, b] = some x) (e : x.1 = .agg [.lit (.int .i64 p), .lit (.int .i64 q)]) : a = .int .i64 p ∧ b = .int .i64 q := by
  have hi : Tryd.prog.cellsOf 3 = 1 := by kernel_rfl
  obtain ⟨y0, y1, n, rfl, _, h0, h1⟩ := trod_struct2 Tryd.underlying60 h
  simp only [hi, List.drop_zero, List.take_succ_cons, List.take_zero, List.drop_succ_cons] at h0 h1
  obtain ⟨z0, e0, f0, _⟩ := DataW.trod_int Tryd.underlying3 h0
  obtain ⟨z1, e1, f1, _⟩ := DataW.trod_int Tryd.underlying3 h1
  injection e0 with e0
  injection e1 with e1
  subst e0 e1
  injection e with e
  injection e with e2 e3
  injection e3 with e3 _
  rw [f0] at e2
  rw [f1] at e3
  injection e2 with e2
  injection e2 with _ e2
  injection e3 with e3
  injection e3 with _ e3
  exact ⟨by rw [e2], by rw [e3]⟩
/-- What the condition gives: the table is there. -/
theorem tab_gives {W : World} (h : laidMetH Tryd.prog laidT W) : W.var? Tryd.prog "loop.example/streamlayers/impl.borders" = some tabR ∧ Tab W := by
  have h' : laidMet Tryd.prog laidT W := h
  obtain ⟨ps, ⟨g', t', cs, f, p, q, hg', ht', hv, hd, _, e⟩, hnd, hrows⟩ := h'
  obtain rfl := Option.some.inj ((show Tryd.prog.globalNamed "loop.example/streamlayers/impl.borders" = some 0 from by kernel_rfl).symm.trans hg')
  obtain rfl := Option.some.inj ((show (Tryd.prog.globals[0]?).map (·.type) = some 61 from by kernel_rfl).symm.trans ht')
  subst e
  obtain ⟨xs, m, _, ex, hlen, hl, hel⟩ := DataW.trod_array Tryd.underlying61 hd
  have c48 : Tryd.prog.cellsOf 61 = 10 := by kernel_rfl
  have c47 : Tryd.prog.cellsOf 60 = 2 := by kernel_rfl
  rw [c48] at hlen
  obtain ⟨cl⟩ := cs
  obtain ⟨c0, c1, c2, c3, c4, c5, c6, c7, c8, c9, rfl⟩ := ten_of hlen
  match xs, hl with
  | [x0, x1, x2, x3, x4], _ =>
    have ey : (DataW.agg [x0.1, x1.1, x2.1, x3.1, x4.1] : DataW Unit) = tabD := (Prod.mk.inj ex).1.symm
    injection ey with ey
    injection ey with y0 ey
    injection ey with y1 ey
    injection ey with y2 ey
    injection ey with y3 ey
    injection ey with y4 _
    have k0 := hel 0 (by omega); have k1 := hel 1 (by omega); have k2 := hel 2 (by omega); have k3 := hel 3 (by omega); have k4 := hel 4 (by omega)
    simp [c47] at k0 k1 k2 k3 k4
    obtain ⟨rfl, rfl⟩ := row_of k0 y0
    obtain ⟨rfl, rfl⟩ := row_of k1 y1
    obtain ⟨rfl, rfl⟩ := row_of k2 y2
    obtain ⟨rfl, rfl⟩ := row_of k3 y3
    obtain ⟨rfl, rfl⟩ := row_of k4 y4
    refine ⟨hv, ?_⟩
    obtain ⟨cc, tt, hb⟩ := (hrows 0 0 (by simp [MemPlace.row])).1
    refine ⟨(Array.getElem?_eq_some_iff.1 hb).1, fun o v hov => ⟨?_, by simp [World.frozen?, hb]⟩⟩
    have := World.var?_cell (P := Tryd.prog) (g := 0) (by kernel_rfl) hv o
    rw [this]
    simpa [tabL] using hov
theorem door_metT (os : Os) (args : Array Value) : laidMetH Tryd.prog laidT ((World.doorLaid Tryd.prog 19 os).forCall (fun _ _ => 0) ⟨#[], args, []⟩).memory :=
  laidMetH_of_parts3 (fuel := 8) (laidMet_of_run' 8 (by kernel_rfl) (by kernel_rfl)) (by kernel_rfl) (by kernel_rfl)
theorem tab_read {H : Type} (enc : TypeId × Value → H) {X : World} (h0 : X.var? Tryd.prog "loop.example/streamlayers/impl.borders" = some tabR) (sp : Nat → Bool) :
    DataW.TrodVars enc Tryd.prog X sp ["loop.example/streamlayers/impl.borders"] [tabD] (MemPlace.row ⟨0, 0, none⟩ 10) :=
  ⟨0, 61, tabR, 4, [], [], by kernel_rfl, by kernel_rfl, h0, by kernel_rfl, rfl, rfl⟩
/-- A law's call gave true and left all that was there as it was, its variables too. -/
theorem law_postT {H : Type} {enc : TypeId × Value → H} {P : Program} {f : Func} {s : ChangeSpec} {W W' : World} {args : Array Value} {ds gs : List (DataW H)} {before qv : List MemPlace} {tb : TypeId}
    (hl : laidOutB P = true) (hT : ∀ t ∈ f.params.toList, P.readableRec t = true ∧ t < P.types.size)
    (hW : DataW.Whole enc P f.params.toList s.vars false W args.toList ds gs before) (hv : ∀ sp : Nat → Bool, DataW.TrodVars enc P W' sp s.vars gs qv)
    (hs : s.fn H (ds ++ gs) = { results := [.lit (.bool true)], args := ds, vars := gs }) (hr : f.resultTypes = #[tb]) (htb : P.underlying tb = some .bool)
    (hb : Below W.heap.size W W') : s.post enc P f false true false false W args (.bool true) W' := by
  have hlt : ∀ p ∈ before, p.block < W.heap.size := fun p hp => hW.lt p hp
  have hW' := hW
  obtain ⟨p, q, hA, hV, rfl, _, _⟩ := hW'
  refine ⟨ds, gs, p ++ q, [], p, qv, hW, ?_, ?_, ?_, hb.frame _, fun h => by cases h⟩
  · rw [hs, hr]
    exact trodAll_mk1 (shut_bool htb true)
  · rw [hs]
    exact trod_at hl hb _ _ _ _ hT (fun x hx => hlt x (List.mem_append_left _ hx)) hA
  · rw [hs]
    exact hv _
end Go.Proofs.YtkgjcoakeliocaaDoor
