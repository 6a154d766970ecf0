/- impl's PlacesOf and BadAt: loops over the iterator. -/
import Derived.Test.YtkgjcoakeliocaaDoorV3
import Derived.Test.YtkgjcoakeliocaaDoorN2
namespace Go.Proofs.YtkgjcoakeliocaaDoor
open Go.ChangeShapes Go.WideShapes Go.ChangeAt Go.RowKit Go.Shelf
set_option linter.unusedSimpArgs false
set_option linter.unusedVariables false
set_option maxRecDepth 100000
attribute [local go_sem] Oper.semAt_some

/-- Where points begin. -/
def plL (xs : List Int) : List Int := (seqP 0 xs).map fun x => (x.1 : Int)
def plOut (xs : List Int) : List Int := if bytesB xs then plL xs else []
theorem seqP_idx : ∀ (ys : List Int) (i : Nat), ∀ x ∈ seqP i ys, i ≤ x.1 ∧ x.1 < i + ys.length
  | [], _, x, hx => by simp [seqP] at hx
  | [b], i, x, hx => by simp [seqP] at hx; subst hx; simp
  | b :: c :: r, i, x, hx => by
    simp only [seqP] at hx
    split at hx
    · rcases List.mem_cons.1 hx with rfl | hx
      · simp
      · have := seqP_idx r (i + 2) x hx; simp only [List.length_cons]; omega
    · rcases List.mem_cons.1 hx with rfl | hx
      · simp
      · have := seqP_idx (c :: r) (i + 1) x hx; simp only [List.length_cons] at *; omega
theorem plL_ok {xs : List Int} (h : xs.length ≤ 60) : ∀ x ∈ plL xs, okInt x := by
  intro x hx
  obtain ⟨p, hp, rfl⟩ := List.mem_map.1 hx
  have := seqP_idx xs 0 p hp
  unfold okInt
  omega
def idxOf (x : Pt) : Int := (x.1.1 : Int)
theorem map_idx {ys : List Pt} {xs : List Int} (h : ys.map (·.1) = seqP 0 xs) : ys.map idxOf = plL xs := by
  unfold plL
  rw [← h, List.map_map]
  rfl

set_option maxHeartbeats 4000000 in
theorem PlacesOf_in (m : Nat) (hm : 9 ≤ m) {A : Option Addr} {n c L B : Nat} {xs : List Int} {w : World} (h : Ints w L B A n xs) (hB : B ≤ w.heap.size) (hnc : n ≤ c) (hT : Tab w) (hv : bytesB xs = true) :
    CallsIn Fence.wide m Tryd.prog 35 #[.slice A n c] w (ListPost (plL xs) w) := by
  have HT := Lib.hid hT
  have HI := Lib.hid h
  have HV := Lib.hid hv
  have hn60 : xs.length ≤ 60 := bytesB_le hv
  clear hv h
  obtain ⟨i0, hi, hz0, hz1, hz2⟩ := info_parts infoInt
  refine callsIn_of_wp_marks Tryd.func35 rfl trivial ?_ rfl
  simp only [Tryd.ntmps35, List.size_toArray, List.length_cons, List.length_nil, Nat.reduceAdd, Nat.reduceSub, Array.replicate_succ, Array.replicate_zero, List.push_toArray, List.append_toArray, List.nil_append, List.cons_append]
  gi_wp2_with (first
    | (refine ⟨trivial, fun _ => by omega, ?_⟩; gi_at_call 51; refine (callsIn_wide.2 (areBytes_any HI.out)).mono ?_; rintro e w' ⟨rfl, rfl⟩; rw [HV.out])
    | (refine ⟨trivial, fun _ => by omega, ?_⟩; gi_at_call 52; refine (callsIn_wide.2 pointsOf_any).mono ?_; rintro e w' ⟨rfl, rfl⟩))
  have bO := Boxed.new w 23 (.slice none 0 0)
  have bN := Boxed.new (w.alloc (.cells #[.slice none 0 0] 23)) 23 (.slice A n c)
  rw [World.size_alloc] at bN
  have hB0 : Below w.heap.size w ((w.alloc (.cells #[.slice none 0 0] 23)).alloc (.cells #[.slice A n c] 23)) := ((Below.refl _ w).alloc (Nat.le_refl _) _).alloc (by simp) _
  refine wpIn_rangeFunc_ownG rfl (by omega) (gf := 72) (lb := #[.pointer (some ⟨w.heap.size + 1, 0, none⟩)]) rfl trivial (enters_of Tryd.func72 (by kernel_rfl) rfl)
    (points_stops (m - 1) (by omega) (w.heap.size + 1) w.heap.size hnc (bytes1_of HV.out) hB (by have := HT.out.lt; omega) (by simp; omega) (by simp) bN.cell (HI.out.below hB0 hB) ((HT.out.alloc _).alloc _)) KpP.t (KpP.b (by simp; omega) (by simp)) (Below.refl _ _) (fun _ => rfl)
    (fun pre W => (∃ v, Boxed W w.heap.size 23 v ∧ W.ownsRow w.heap.size 3 1 v (pre.map idxOf).length ((pre.map idxOf).map (Value.int .i64)) ∧ True) ∧ (Boxed W (w.heap.size + 1) 23 (.slice A n c) ∧ Below w.heap.size w W))
    (fun _ _ _ => False)
    (OwnFrom.and (Own.from (holdsRow_own w.heap.size w.heap.size 23 3 1 (fun pre : List Pt => (pre.map idxOf).length) (fun pre => (pre.map idxOf).map (Value.int .i64)) (fun pre v => True)) _) (OwnFrom.and (Own.from (boxed_own _ _ _) _) (ownFrom_below (Nat.le_refl _) (by simp; omega))))
    (fun _ _ _ _ _ hs _ _ => hs)
    ⟨⟨_, bO.alloc _, World.ownsRow_nil _ _ _ _, trivial⟩, bN, hB0⟩
    ?a1 ?assign ?body ?done ?stop
  case assign =>
    intro l x W K hK
    unfold encPt
    gi_wp2
    exact hK
  case body =>
    rintro l pre x W ⟨⟨v, hv, hrow, _⟩, hb, hB⟩ hlt
    have hc := hv.cell
    have hpl : (pre.map idxOf).length = pre.length := List.length_map _
    gi_wp2_with (gi_at_builtin; refine wpListIn_append_own _ rfl _ _ 23 rfl w.heap.size 3 i0 (.int .i64 0) 1 8 Tryd.underlying23 hi hz0 hz1 hz2 rfl (by decide) _ _ _ rfl (hrow.alloc _) ⟨W.heap.size, 0, none⟩ 1 1 [.int .i64 (x.1.1 : Int)] rfl rfl (cell_one_new _ _ _) (by simp [Value.oneCell']) (by unfold maxLen; omega) (by omega) (by have := hB.size; simp; omega) ?_; intro v' w1 hown' hgrow _; obtain ⟨g', cap', rfl⟩ := ownsRow_succ hown'; obtain ⟨hv1, hv2, hr2, hk2, hb2⟩ := hv.appended (by decide) hrow hB.size (Nat.le_refl _) hown' hgrow; have hc1 := hv1.cell; have hf1 := hv1.frozen; have hbx := ((hb.alloc _).kept hgrow (hb.not_row (by decide) hrow)).kept (grownBy_setCell' w1 w.heap.size (.slice (some ⟨g', 0, none⟩) ((pre.map idxOf).length + 1) cap')) (by simp))
    rw [hpl] at hv2 hr2 hk2 hb2 hbx
    exact ⟨hk2.from _, ⟨hb2, hbx.trans hb.symm⟩, ⟨⟨_, hv2, by simpa [idxOf] using hr2, trivial⟩, hbx, hB.trans hb2⟩⟩
  case done =>
    rintro D ys W hD hS ⟨⟨v, hv, hrow, _⟩, hb, hB⟩ hK
    have hc := hv.cell
    gi_wp2
    refine ⟨by simp, .inl ⟨_, _, rfl, run_takeDeferred hK, ?_⟩⟩
    refine ⟨_, results_tmp rfl _ _ _, ?_⟩
    rw [map_idx hS] at hrow
    have e : OwnI (W.putObj D (.deferred none)) w.heap.size v (plL xs).length (plL xs) := ownsRow_putObj hrow _ hK rfl
    exact listPost_own (hB.trans (belowK_b (w := w) (Nat.le_refl _) W D _ _ (by simp at hD; omega) hK rfl rfl)) e (plL_ok hn60)
  case stop =>
    rintro D c pre W _ _ h _
    exact h.elim
set_option maxHeartbeats 2000000 in
theorem PlacesOf_any {A : Option Addr} {n c L B : Nat} {xs : List Int} {w : World} (h : Ints w L B A n xs) (hB : B ≤ w.heap.size) (hnc : n ≤ c) (hT : Tab w) :
    Calls Tryd.prog 35 #[.slice A n c] w (ListPost (plOut xs) w) := by
  cases hv : bytesB xs
  · have HE : Hid (plOut xs = []) := by show _ = _; simp [plOut, hv]
    rw [HE.out]
    go_enter Tryd.func35, Tryd.ntmps35
    go_wp2_with fail
    refine (areBytes_any h).mono ?_
    rintro e w1 ⟨rfl, rfl⟩
    rw [hv]
    go_wp2
    go_ret
    exact ⟨none, 0, 0, rfl, Nat.le_refl _, Below.refl _ _, (Ints.nil _ _ _ 0 _).1⟩
  · have HE : Hid (plOut xs = plL xs) := by show _ = _; simp [plOut, hv]
    rw [HE.out]
    exact callsIn_wide.1 (PlacesOf_in 9 (by omega) h hB hnc hT hv)

/-- The first wrong byte. -/
def bdL (xs : List Int) : Int := match (seqP 0 xs).find? (fun x => decide (2047 < x.2)) with
  | some x => (x.1 : Int)
  | none => -1
def bdOut (xs : List Int) : Int := if bytesB xs then bdL xs else -2
/-- Nothing of it is kept; the last one is the first that is. -/
def LowAll (pre : List Pt) : Prop := ∀ p ∈ pre, ¬ 2047 < p.1.2
def Hit (pre : List Pt) (k : Int) : Prop := ∃ ini q, pre = ini ++ [q] ∧ LowAll ini ∧ 2047 < q.1.2 ∧ k = (q.1.1 : Int)
theorem LowAll.more {pre : List Pt} {x : Pt} (h : LowAll pre) (hx : ¬ 2047 < x.1.2) : LowAll (pre ++ [x]) := fun p hp => (List.mem_append.1 hp).elim (h p) (fun e => by
  have e2 : p = x := by simpa using e
  subst e2; exact hx)
theorem bdL_none {xs : List Int} {ys : List Pt} (h : ys.map (·.1) = seqP 0 xs) (hn : LowAll ys) : bdL xs = -1 := by
  have : (seqP 0 xs).find? (fun x => decide (2047 < x.2)) = none := by
    rw [List.find?_eq_none]
    intro x hx
    rw [← h] at hx
    obtain ⟨p, hp, rfl⟩ := List.mem_map.1 hx
    simpa using hn p hp
  unfold bdL
  rw [this]
theorem bdL_some {xs : List Int} {pre : List Pt} {k : Int} (h : pre.map (·.1) <+: seqP 0 xs) (hh : Hit pre k) : bdL xs = k := by
  obtain ⟨ini, q, rfl, hn, hq, rfl⟩ := hh
  obtain ⟨t, ht⟩ := h
  have : (seqP 0 xs).find? (fun x => decide (2047 < x.2)) = some q.1 := by
    rw [← ht, List.map_append, List.append_assoc, List.find?_append]
    have h1 : (ini.map (·.1)).find? (fun x => decide (2047 < x.2)) = none := by
      rw [List.find?_eq_none]
      intro x hx
      obtain ⟨p, hp, rfl⟩ := List.mem_map.1 hx
      simpa using hn p hp
    rw [h1]
    simp [hq]
  unfold bdL
  rw [this]

set_option maxHeartbeats 4000000 in
theorem BadAt_in (m : Nat) (hm : 9 ≤ m) {A : Option Addr} {n c L B : Nat} {xs : List Int} {w : World} (h : Ints w L B A n xs) (hB : B ≤ w.heap.size) (hnc : n ≤ c) (hT : Tab w) (hv : bytesB xs = true) :
    CallsIn Fence.wide m Tryd.prog 22 #[.slice A n c] w (IntB (bdL xs) w) := by
  have HT := Lib.hid hT
  have HI := Lib.hid h
  have HV := Lib.hid hv
  clear hv h
  have bR := Boxed.new w 3 (.int .i64 0)
  have bN := Boxed.new (w.alloc (.cells #[.int .i64 0] 3)) 23 (.slice A n c)
  rw [World.size_alloc] at bN
  have hB0 : Below w.heap.size w ((w.alloc (.cells #[.int .i64 0] 3)).alloc (.cells #[.slice A n c] 23)) := ((Below.refl _ w).alloc (Nat.le_refl _) _).alloc (by simp) _
  have HB1 : Hid (Below w.heap.size w (w.alloc (.cells #[.int .i64 0] 3))) := (Below.refl _ w).alloc (Nat.le_refl _) _
  refine callsIn_of_wp_marks Tryd.func22 rfl trivial ?_ rfl
  simp only [Tryd.ntmps22, List.size_toArray, List.length_cons, List.length_nil, Nat.reduceAdd, Nat.reduceSub, Array.replicate_succ, Array.replicate_zero, List.push_toArray, List.append_toArray, List.nil_append, List.cons_append]
  gi_wp2_with (first
    | (refine ⟨trivial, fun _ => by omega, ?_⟩; gi_at_call 51; refine (callsIn_wide.2 (areBytes_any (HI.out.below HB1.out hB))).mono ?_; rintro e w' ⟨rfl, rfl⟩; rw [HV.out])
    | (refine ⟨trivial, fun _ => by omega, ?_⟩; gi_at_call 52; refine (callsIn_wide.2 pointsOf_any).mono ?_; rintro e w' ⟨rfl, rfl⟩; try simp only [World.size_alloc]))
  refine wpIn_rangeFunc_ownG rfl (by omega) (gf := 72) (lb := #[.pointer (some ⟨w.heap.size + 1, 0, none⟩)]) rfl trivial (enters_of Tryd.func72 (by kernel_rfl) rfl)
    (points_stops (m - 1) (by omega) (w.heap.size + 1) w.heap.size hnc (bytes1_of HV.out) hB (by have := HT.out.lt; omega) (by simp; omega) (by simp) bN.cell (HI.out.below hB0 hB) ((HT.out.alloc _).alloc _)) KpP.t (KpP.b (by simp; omega) (by simp)) (Below.refl _ _) (fun _ => rfl)
    (fun pre W => (LowAll pre ∧ Boxed W w.heap.size 3 (.int .i64 0)) ∧ (Boxed W (w.heap.size + 1) 23 (.slice A n c) ∧ Below w.heap.size w W))
    (fun cd pre W => (cd = .ret ∧ ∃ k : Int, Hit pre k ∧ Boxed W w.heap.size 3 (.int .i64 k)) ∧ Below w.heap.size w W)
    (OwnFrom.and (OwnFrom.and (ownFrom_pure _ _) (Own.from (boxed_own _ _ _) _)) (OwnFrom.and (Own.from (boxed_own _ _ _) _) (ownFrom_below (Nat.le_refl _) (by simp; omega))))
    (fun cd => OwnFrom.and (Own.from (fun s X Y row hs hg hr => by
      obtain ⟨e1, k, e2, e5⟩ := hs
      exact ⟨e1, k, e2, boxed_own (β := Unit) _ _ (fun _ => _) () X Y row e5 hg hr⟩) _) (ownFrom_below (Nat.le_refl _) (by simp; omega)))
    ⟨⟨fun p hp => (by cases hp), bR.alloc _⟩, bN, hB0⟩
    ?a1 ?assign ?body ?done ?stop
  case assign =>
    intro l x W K hK
    unfold encPt
    gi_wp2
    exact hK
  case body =>
    rintro l pre x W ⟨⟨hp, hv⟩, hb, hB⟩ hlt
    have hc := hv.cell
    have hf := hv.frozen
    by_cases hx : 2047 < x.1.2
    · gi_wp2_with (refine ⟨trivial, fun _ => by omega, ?_⟩; gi_at_call 53; refine (CallsIn.inRound l (callsIn_wide.2 isKept_any)).mono ?_; rintro e w' ⟨rfl, rfl⟩)
      exact ⟨(KeepsOthers.setCell _ _ _).from _, ⟨rfl, _, ⟨pre, x, rfl, hp, hx, rfl⟩, hv.set _⟩, hB.setCell (p := ⟨w.heap.size, 0, none⟩) (Nat.le_refl _) _⟩
    · gi_wp2_with (refine ⟨trivial, fun _ => by omega, ?_⟩; gi_at_call 53; refine (CallsIn.inRound l (callsIn_wide.2 isKept_any)).mono ?_; rintro e w' ⟨rfl, rfl⟩)
      exact ⟨KeepsFrom.refl _ _, ⟨Below.refl _ _, rfl⟩, ⟨⟨hp.more (by omega), hv⟩, hb, hB⟩⟩
  case done =>
    rintro D ys W hD hS ⟨⟨hne, hv⟩, hb, hB⟩ hK
    have hc := hv.cell
    have hf := hv.frozen
    gi_wp2
    have hK' := (KeepsOthers.setCell W ⟨w.heap.size, 0, none⟩ (.int .i64 (-1))).same D _ hK rfl
    refine ⟨by simp, .inl ⟨_, _, rfl, run_takeDeferred hK', ?_⟩⟩
    have hc5 := cell_kept (hv.set (.int .i64 (-1))).cell (grownBy_putObj' _ D (.deferred none)) (fun r e => by cases e; exact ⟨_, hK', rfl⟩)
    refine ⟨.int .i64 (-1), ?_, ?_⟩
    · simp [results, Tryd.results22, go_sem, hc5]
    · exact ⟨ret_int (bdL_none hS hne).symm, (hB.setCell (p := ⟨w.heap.size, 0, none⟩) (Nat.le_refl _) _).trans (belowK_b (w := w) (Nat.le_refl _) _ D _ _ (by simp at hD; omega) hK' rfl rfl)⟩
  case stop =>
    rintro D cd pre W hD hSp ⟨⟨rfl, k, hk, hv⟩, hB⟩ hK
    gi_wp2
    refine ⟨by simp, .inl ⟨_, _, rfl, run_takeDeferred hK, ?_⟩⟩
    have hc5 := cell_kept hv.cell (grownBy_putObj' _ D (.deferred none)) (fun r e => by cases e; exact ⟨_, hK, rfl⟩)
    refine ⟨.int .i64 k, ?_, ?_⟩
    · simp [results, Tryd.results22, go_sem, hc5]
    · exact ⟨ret_int (bdL_some hSp hk).symm, hB.trans (belowK_b (w := w) (Nat.le_refl _) _ D _ _ (by simp at hD; omega) hK rfl rfl)⟩
set_option maxHeartbeats 2000000 in
theorem BadAt_any {A : Option Addr} {n c L B : Nat} {xs : List Int} {w : World} (h : Ints w L B A n xs) (hB : B ≤ w.heap.size) (hnc : n ≤ c) (hT : Tab w) :
    Calls Tryd.prog 22 #[.slice A n c] w (IntB (bdOut xs) w) := by
  cases hv : bytesB xs
  · have HE : Hid (bdOut xs = -2) := by show _ = _; simp [bdOut, hv]
    rw [HE.out]
    go_enter Tryd.func22, Tryd.ntmps22
    go_wp2_with fail
    refine (areBytes_any (h.alloc hB _)).mono ?_
    rintro e w1 ⟨rfl, rfl⟩
    rw [hv]
    have R0 := Lib.hid (Box.new w 3 [.int .i64 0])
    have r0 := (R0.out.2 0 _ rfl).1; have f0 := (R0.out.2 0 _ rfl).2
    go_wp2
    refine bodyPost_ret (v := .int .i64 (-2)) (by simp [results, Tryd.results22, go_sem, r0, f0]) rfl ?_
    refine ⟨rfl, ?_⟩
    (repeat (with_reducible refine below_set ?_ (by omega) _))
    go_grown
  · have HE : Hid (bdOut xs = bdL xs) := by show _ = _; simp [bdOut, hv]
    rw [HE.out]
    exact callsIn_wide.1 (BadAt_in 9 (by omega) h hB hnc hT hv)
end Go.Proofs.YtkgjcoakeliocaaDoor
