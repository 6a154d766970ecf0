/- impl's decoded: a loop over the iterator that collects, and may stop. -/
import Derived.Test.YtkgjcoakeliocaaDoorV4
namespace Go.Proofs.YtkgjcoakeliocaaDoor
open Go.ChangeShapes Go.WideShapes Go.ChangeAt Go.RowKit Go.Shelf
set_option linter.unusedSimpArgs false
set_option linter.unusedVariables false
set_option maxRecDepth 100000
attribute [local go_sem] Oper.semAt_some

def ptOf (x : Pt) : Int := x.1.2
theorem map_pt {ys : List Pt} {xs : List Int} (h : ys.map (·.1) = seqP 0 xs) : ys.map ptOf = rawP xs := by
  rw [← seqP_raw xs 0, ← h, List.map_map]
  rfl
/-- What was made of the points so far, none of which stops the way. -/
def madeL (m : Int) (l : List Int) : List Int := l.flatMap (kp m)
def Runs (m : Int) (l : List Int) : Prop := ∀ p ∈ l, stp m p = false
theorem madeL_snoc {m p : Int} {l : List Int} : madeL m (l ++ [p]) = madeL m l ++ kp m p := by simp [madeL]
theorem Runs.more {m p : Int} {l : List Int} (h : Runs m l) (hp : stp m p = false) : Runs m (l ++ [p]) := fun q hq => (List.mem_append.1 hq).elim (h q) (fun e => by
  have e2 : q = p := by simpa using e
  subst e2; exact hp)
theorem decP_runs {m : Int} : ∀ {l : List Int}, Runs m l → ∀ r, decP m (l ++ r) = (madeL m l ++ (decP m r).1, (decP m r).2)
  | [], _, r => by simp [madeL]
  | p :: l, h, r => by
    have h1 := h p List.mem_cons_self
    have h2 := decP_runs (l := l) (fun q hq => h q (List.mem_cons_of_mem _ hq)) r
    simp only [List.cons_append, decP, h1, Bool.false_eq_true, if_false, h2]
    simp [madeL]
theorem decB_all {m : Int} {ys : List Pt} {xs : List Int} (h : ys.map (·.1) = seqP 0 xs) (hr : Runs m (ys.map ptOf)) : decB m xs = (madeL m (ys.map ptOf), true) := by
  unfold decB
  rw [← map_pt h]
  have := decP_runs hr []
  simp only [List.append_nil, decP] at this
  exact this
/-- The last point stops the way. -/
def Stops (m : Int) (l : List Int) (k : List Int) : Prop := ∃ ini q, l = ini ++ [q] ∧ Runs m ini ∧ stp m q = true ∧ k = madeL m ini
theorem decB_stop {m : Int} {pre : List Pt} {xs k : List Int} (h : pre.map (·.1) <+: seqP 0 xs) (hs : Stops m (pre.map ptOf) k) : decB m xs = (k, false) := by
  obtain ⟨t, ht⟩ := h
  obtain ⟨ini, q, e, hr, hq, rfl⟩ := hs
  unfold decB
  have h1 : rawP xs = ini ++ (q :: t.map (·.2)) := by
    rw [← seqP_raw xs 0, ← ht, List.map_append, List.map_map]
    have h2 : pre.map ((fun x => x.2) ∘ fun x => x.1) = ini ++ [q] := by rw [← e]; rfl
    rw [h2]
    simp
  rw [h1, decP_runs hr]
  simp [decP, hq]
theorem madeL_len (m : Int) (l : List Int) : (madeL m l).length ≤ l.length := by
  induction l with
  | nil => simp [madeL]
  | cons p l ih =>
    have := kp_len m p
    have e : madeL m (p :: l) = kp m p ++ madeL m l := by simp [madeL]
    rw [e, List.length_append, List.length_cons]
    omega
theorem kp_keep {m p : Int} (h : ¬ 2047 < p ∨ m = 3) : kp m p = [p] ∧ stp m p = false := by
  unfold kp stp
  rcases h with h | h
  · rw [if_neg h]; simp; omega
  · subst h
    refine ⟨?_, by simp⟩
    split <;> simp
theorem kp_mark {p : Int} (h : 2047 < p) : kp 2 p = [2047] ∧ stp 2 p = false := by simp [kp, stp, h]
theorem kp_stop {p : Int} (h : 2047 < p) : stp 0 p = true := by simp [stp, h]
theorem kp_drop {m p : Int} (h : 2047 < p) (h3 : m ≠ 3) (h2 : m ≠ 2) (h0 : m ≠ 0) : kp m p = [] ∧ stp m p = false := by simp [kp, stp, h, h3, h2, h0]
/-- Points in new memory, and whether that is possible. -/
def ListBPost (xs : List Int) (ok : Bool) (w : World) (e : Ending) (w' : World) : Prop :=
  ∃ A n c, e = .returned (.tuple #[.slice A n c, .bool ok]) ∧ n ≤ c ∧ Below w.heap.size w w' ∧ Ints w' w.heap.size w'.heap.size A n xs
theorem listBPost_own {w w' : World} {v : Value} {n : Nat} {xs : List Int} {ok : Bool} (hb : Below w.heap.size w w') (h : OwnI w' w.heap.size v n xs) (hok : ∀ x ∈ xs, okInt x) : ListBPost xs ok w (.returned (.tuple #[v, .bool ok])) w' := by
  obtain ⟨A, c, rfl, hc, hI⟩ := h.ints hok
  exact ⟨A, n, c, rfl, hc, hb, hI⟩

/-- A box of other things stays over an append, and a store into another box. -/
theorem boxOver {W w1 : World} {n₀ Bs B' : Nat} {t e : TypeId} {u v : Value} {k : Nat} {xs : List Value} {tmp : Obj} (hb : Boxed W Bs t u) (hte : t ≠ e) (hrow : W.ownsRow n₀ e 1 v k xs) (hgrow : (W.alloc tmp).grownBy w1 v.ownBlock) (hne : Bs ≠ B') (v' : Value) : Boxed (w1.setCell ⟨B', 0, none⟩ v') Bs t u :=
  ((hb.alloc _).kept hgrow (hb.not_row hte hrow)).other hne _
/-- So does a box below the row's own blocks, whatever it holds. -/
theorem boxSame {W w1 : World} {n₀ Bs B' : Nat} {t e : TypeId} {u v : Value} {k : Nat} {xs : List Value} {tmp : Obj} (hb : Boxed W Bs t u) (hrow : W.ownsRow n₀ e 1 v k xs) (hgrow : (W.alloc tmp).grownBy w1 v.ownBlock) (hx : Bs < n₀) (hne : Bs ≠ B') (v' : Value) : Boxed (w1.setCell ⟨B', 0, none⟩ v') Bs t u :=
  ((hb.alloc _).kept hgrow (fun e => by have := World.ownsRow.lt hrow Bs e.symm; omega)).other hne _
theorem listBPost_at {w w' : World} {v : Value} {n b : Nat} {xs : List Int} {ok : Bool} (hb : Below w.heap.size w w') (h : OwnI w' b v n xs) (hB : w.heap.size ≤ b) (hok : ∀ x ∈ xs, okInt x) : ListBPost xs ok w (.returned (.tuple #[v, .bool ok])) w' := by
  obtain ⟨A, c, rfl, hc, hI⟩ := h.ints hok
  exact ⟨A, n, c, rfl, hc, hb, hI.more hB (Nat.le_refl _)⟩
set_option maxHeartbeats 8000000 in
theorem decoded_in (m : Nat) (hm : 9 ≤ m) {A : Option Addr} {n c L B : Nat} {xs : List Int} {md : Int} {w : World} (h : Ints w L B A n xs) (hB : B ≤ w.heap.size) (hnc : n ≤ c) (hT : Tab w) (hv : bytes1 xs) :
    CallsIn Fence.wide m Tryd.prog 60 #[.slice A n c, .int .i64 md] w (ListBPost (decB md xs).1 (decB md xs).2 w) := by
  have HT := Lib.hid hT
  have HI := Lib.hid h
  have HV := Lib.hid hv
  have hn60 : xs.length ≤ 61 := hv.1
  have OK : Hid (∀ x ∈ (decB md xs).1, okInt x) := decB_ok hv.2
  clear hv h
  obtain ⟨i0, hi, hz0, hz1, hz2⟩ := info_parts infoInt
  have b0 := Boxed.new w 3 (.int .i64 md)
  have b1 := Boxed.new (w.alloc (.cells #[.int .i64 md] 3)) 23 (.slice none 0 0)
  have b2 := Boxed.new ((w.alloc (.cells #[.int .i64 md] 3)).alloc (.cells #[.slice none 0 0] 23)) 4 (.bool false)
  have b3 := Boxed.new (((w.alloc (.cells #[.int .i64 md] 3)).alloc (.cells #[.slice none 0 0] 23)).alloc (.cells #[.bool false] 4)) 23 (.slice none 0 0)
  have b4 := Boxed.new ((((w.alloc (.cells #[.int .i64 md] 3)).alloc (.cells #[.slice none 0 0] 23)).alloc (.cells #[.bool false] 4)).alloc (.cells #[.slice none 0 0] 23)) 23 (.slice A n c)
  have hB0 : Below w.heap.size w (((((w.alloc (.cells #[.int .i64 md] 3)).alloc (.cells #[.slice none 0 0] 23)).alloc (.cells #[.bool false] 4)).alloc (.cells #[.slice none 0 0] 23)).alloc (.cells #[.slice A n c] 23)) := by go_grown
  simp only [World.size_alloc] at b1 b2 b3 b4
  refine callsIn_of_wp_marks Tryd.func60 rfl trivial ?_ rfl
  simp only [Tryd.ntmps60, List.size_toArray, List.length_cons, List.length_nil, Nat.reduceAdd, Nat.reduceSub, Array.replicate_succ, Array.replicate_zero, List.push_toArray, List.append_toArray, List.nil_append, List.cons_append]
  gi_wp2_with (refine ⟨trivial, fun _ => by omega, ?_⟩; gi_at_call 52; refine (callsIn_wide.2 pointsOf_any).mono ?_; rintro e w' ⟨rfl, rfl⟩; try simp only [World.size_alloc])
  refine wpIn_rangeFunc_ownG rfl (by omega) (gf := 72) (lb := #[.pointer (some ⟨w.heap.size + 4, 0, none⟩)]) rfl trivial (enters_of Tryd.func72 (by kernel_rfl) rfl)
    (points_stops (m - 1) (by omega) (w.heap.size + 4) w.heap.size hnc HV.out hB (by have := HT.out.lt; omega) (by simp; omega) (by simp) b4.cell (HI.out.below hB0 hB) (HT.out.keep hB0 HT.out.lt)) KpP.t (KpP.b (by simp; omega) (by simp)) (Below.refl _ _) (fun _ => rfl)
    (fun pre W => (∃ v, Boxed W (w.heap.size + 3) 23 v ∧ W.ownsRow (w.heap.size + 1) 3 1 v (madeL md (pre.map ptOf)).length ((madeL md (pre.map ptOf)).map (Value.int .i64)) ∧ True) ∧ (Runs md (pre.map ptOf) ∧ (Boxed W w.heap.size 3 (.int .i64 md) ∧ (Boxed W (w.heap.size + 1) 23 (.slice none 0 0) ∧ (Boxed W (w.heap.size + 2) 4 (.bool false) ∧ (Boxed W (w.heap.size + 4) 23 (.slice A n c) ∧ Below w.heap.size w W))))))
    (fun cd pre W => (cd = .ret ∧ ∃ k : List Int, Stops md (pre.map ptOf) k ∧ (∃ v, Boxed W (w.heap.size + 1) 23 v ∧ W.ownsRow (w.heap.size + 1) 3 1 v k.length (k.map (Value.int .i64)) ∧ True) ∧ Boxed W (w.heap.size + 2) 4 (.bool false)) ∧ Below w.heap.size w W)
    (OwnFrom.and (Own.from (holdsRow_own (w.heap.size + 1) (w.heap.size + 3) 23 3 1 (fun pre : List Pt => (madeL md (pre.map ptOf)).length) (fun pre => (madeL md (pre.map ptOf)).map (Value.int .i64)) (fun pre v => True)) _) (OwnFrom.and (ownFrom_pure _ _) (OwnFrom.and (Own.from (boxed_own _ _ _) _) (OwnFrom.and (Own.from (boxed_own _ _ _) _) (OwnFrom.and (Own.from (boxed_own _ _ _) _) (OwnFrom.and (Own.from (boxed_own _ _ _) _) (ownFrom_below (Nat.le_refl _) (by simp; omega))))))))
    (fun cd => OwnFrom.and (Own.from (fun s X Y row hs hg hr => by
      obtain ⟨e1, k, e2, e5, e6⟩ := hs
      exact ⟨e1, k, e2, holdsRow_own (β := Unit) _ _ _ _ _ (fun _ => _) (fun _ => _) (fun _ _ => True) () X Y row e5 hg hr, boxed_own (β := Unit) _ _ (fun _ => _) () X Y row e6 hg hr⟩) _) (ownFrom_below (Nat.le_refl _) (by simp; omega)))
    ⟨⟨_, b3.alloc _, World.ownsRow_nil _ _ _ _, trivial⟩, fun p hp => (by cases hp), (((b0.alloc _).alloc _).alloc _).alloc _, ((b1.alloc _).alloc _).alloc _, (b2.alloc _).alloc _, b4, hB0⟩
    ?a1 ?assign ?body ?done ?stop
  case assign =>
    intro l x W K hK
    unfold encPt
    gi_wp2
    exact hK
  case body =>
    rintro l pre x W ⟨⟨v, hv, hrow, _⟩, hruns, q0, q1, q2, q4, hB⟩ hlt
    have hc := hv.cell; have c0 := q0.cell; have c1 := q1.cell; have c2 := q2.cell; have f1 := q1.frozen; have f2 := q2.frozen
    have hpl : (madeL md (pre.map ptOf)).length ≤ 61 := by have h1 := madeL_len md (pre.map ptOf); rw [List.length_map] at h1; omega
    have hpo : 0 ≤ x.1.2 ∧ x.1.2 ≤ 3255 := x.2.2
    generalize hln : (madeL md (pre.map ptOf)).length = ln at hrow hpl
    by_cases h2 : 2047 < x.1.2
    · by_cases h3 : md = 3
      · have e3 : (md == 3) = true := by simp [h3]
        gi_wp2_with (first | (refine ⟨trivial, fun _ => by omega, ?_⟩; gi_at_call 53; refine (CallsIn.inRound l (callsIn_wide.2 isKept_any)).mono ?_; rintro e w' ⟨rfl, rfl⟩) | (gi_at_builtin; refine wpListIn_append_own _ rfl _ _ 23 rfl (w.heap.size + 1) 3 i0 (.int .i64 0) 1 8 Tryd.underlying23 hi hz0 hz1 hz2 rfl (by decide) _ _ _ rfl (hrow.alloc _) ⟨W.heap.size, 0, none⟩ 1 1 [.int .i64 (x.1.2)] rfl rfl (cell_one_new _ _ _) (by simp [Value.oneCell']) (by unfold maxLen; omega) (by omega) (by have := q0.lt; simp; omega) ?_; intro v' w1 hown' hgrow _; obtain ⟨g', cap', rfl⟩ := ownsRow_succ hown'; obtain ⟨hv1, hv2, hr2, hk2, hb2⟩ := hv.appended (by decide) hrow (by have := q0.lt; omega) (by omega) hown' hgrow; have hc1 := hv1.cell; have hf1 := hv1.frozen; have o0 := (boxSame q0 hrow hgrow (B' := w.heap.size + 3) (by omega) (by omega) (.slice (some ⟨g', 0, none⟩) (ln + 1) cap')); have o1 := (boxOver q1 (by decide) hrow hgrow (B' := w.heap.size + 3) (by omega) (.slice (some ⟨g', 0, none⟩) (ln + 1) cap')); have o2 := (boxOver q2 (by decide) hrow hgrow (B' := w.heap.size + 3) (by omega) (.slice (some ⟨g', 0, none⟩) (ln + 1) cap')); have o4 := (boxOver q4 (by decide) hrow hgrow (B' := w.heap.size + 3) (by omega) (.slice (some ⟨g', 0, none⟩) (ln + 1) cap'))))
        exact ⟨hk2.from _, ⟨hb2.mono (by omega), o4.trans q4.symm⟩, ⟨_, hv2, by rw [List.map_append, List.map_singleton, madeL_snoc, ((kp_keep (.inr h3) : kp md (ptOf x) = [ptOf x] ∧ stp md (ptOf x) = false).1 : kp md (ptOf x) = [x.1.2]), List.length_append, hln, List.map_append]; exact hr2, trivial⟩, by rw [List.map_append, List.map_singleton]; exact hruns.more (kp_keep (.inr h3) : kp md (ptOf x) = [ptOf x] ∧ stp md (ptOf x) = false).2, o0, o1, o2, o4, hB.trans (hb2.mono (by omega))⟩
      · have e3 : (md == 3) = false := by simp [h3]
        by_cases h4 : md = 2
        · have e4 : (md == 2) = true := by simp [h4]
          gi_wp2_with (first | (refine ⟨trivial, fun _ => by omega, ?_⟩; gi_at_call 53; refine (CallsIn.inRound l (callsIn_wide.2 isKept_any)).mono ?_; rintro e w' ⟨rfl, rfl⟩) | (gi_at_builtin; refine wpListIn_append_own _ rfl _ _ 23 rfl (w.heap.size + 1) 3 i0 (.int .i64 0) 1 8 Tryd.underlying23 hi hz0 hz1 hz2 rfl (by decide) _ _ _ rfl (hrow.alloc _) ⟨W.heap.size, 0, none⟩ 1 1 [.int .i64 (2047)] rfl rfl (cell_one_new _ _ _) (by simp [Value.oneCell']) (by unfold maxLen; omega) (by omega) (by have := q0.lt; simp; omega) ?_; intro v' w1 hown' hgrow _; obtain ⟨g', cap', rfl⟩ := ownsRow_succ hown'; obtain ⟨hv1, hv2, hr2, hk2, hb2⟩ := hv.appended (by decide) hrow (by have := q0.lt; omega) (by omega) hown' hgrow; have hc1 := hv1.cell; have hf1 := hv1.frozen; have o0 := (boxSame q0 hrow hgrow (B' := w.heap.size + 3) (by omega) (by omega) (.slice (some ⟨g', 0, none⟩) (ln + 1) cap')); have o1 := (boxOver q1 (by decide) hrow hgrow (B' := w.heap.size + 3) (by omega) (.slice (some ⟨g', 0, none⟩) (ln + 1) cap')); have o2 := (boxOver q2 (by decide) hrow hgrow (B' := w.heap.size + 3) (by omega) (.slice (some ⟨g', 0, none⟩) (ln + 1) cap')); have o4 := (boxOver q4 (by decide) hrow hgrow (B' := w.heap.size + 3) (by omega) (.slice (some ⟨g', 0, none⟩) (ln + 1) cap'))))
          exact ⟨hk2.from _, ⟨hb2.mono (by omega), o4.trans q4.symm⟩, ⟨_, hv2, by rw [List.map_append, List.map_singleton, madeL_snoc, ((by rw [h4]; exact kp_mark h2 : kp md (ptOf x) = [2047] ∧ stp md (ptOf x) = false).1 : kp md (ptOf x) = [2047]), List.length_append, hln, List.map_append]; exact hr2, trivial⟩, by rw [List.map_append, List.map_singleton]; exact hruns.more (by rw [h4]; exact kp_mark h2 : kp md (ptOf x) = [2047] ∧ stp md (ptOf x) = false).2, o0, o1, o2, o4, hB.trans (hb2.mono (by omega))⟩
        · have e4 : (md == 2) = false := by simp [h4]
          by_cases h5 : md = 0
          · have e5 : (md == 0) = true := by simp [h5]
            obtain ⟨A9, n9, c9, rfl⟩ : ∃ A9 n9 c9, v = .slice A9 n9 c9 := by rcases hrow.2 with ⟨rfl, _⟩ | ⟨g, cap, cur, rfl, _⟩ <;> exact ⟨_, _, _, rfl⟩
            gi_wp2_with (refine ⟨trivial, fun _ => by omega, ?_⟩; gi_at_call 53; refine (CallsIn.inRound l (callsIn_wide.2 isKept_any)).mono ?_; rintro e w' ⟨rfl, rfl⟩)
            have r1 : (W.setCell ⟨w.heap.size + 1, 0, none⟩ (.slice A9 n9 c9)).ownsRow (w.heap.size + 1) 3 1 (.slice A9 n9 c9) ln ((madeL md (pre.map ptOf)).map (Value.int .i64)) := hrow.kept (grownBy_setCell' W _ _) (.inr (q1.not_row (by decide) hrow).symm)
            have o2 := q2.other (B' := w.heap.size + 1) (by omega) (.slice A9 n9 c9)
            have r2 := r1.kept (grownBy_setCell' _ (w.heap.size + 2) (.bool false)) (.inr (o2.not_row (by decide) r1).symm)
            rw [← hln] at r2
            exact ⟨((KeepsOthers.setCell _ _ _).trans (KeepsOthers.setCell _ _ _)).from _, ⟨rfl, _, ⟨pre.map ptOf, ptOf x, by simp, hruns, (by rw [h5]; exact kp_stop h2 : stp md (ptOf x) = true), rfl⟩, ⟨_, (q1.set (.slice A9 n9 c9)).other (by omega) _, r2, trivial⟩, o2.set _⟩, (hB.setCell (p := ⟨w.heap.size + 1, 0, none⟩) (by show w.heap.size ≤ w.heap.size + 1; omega) _).setCell (p := ⟨w.heap.size + 2, 0, none⟩) (by show w.heap.size ≤ w.heap.size + 2; omega) _⟩
          · have e5 : (md == 0) = false := by simp [h5]
            gi_wp2_with (refine ⟨trivial, fun _ => by omega, ?_⟩; gi_at_call 53; refine (CallsIn.inRound l (callsIn_wide.2 isKept_any)).mono ?_; rintro e w' ⟨rfl, rfl⟩)
            have hd := kp_drop (m := md) (p := ptOf x) h2 h3 h4 h5
            exact ⟨KeepsFrom.refl _ _, ⟨Below.refl _ _, rfl⟩, ⟨v, hv, by rw [List.map_append, List.map_singleton, madeL_snoc, hd.1, List.append_nil, hln]; exact hrow, trivial⟩, by rw [List.map_append, List.map_singleton]; exact hruns.more hd.2, q0, q1, q2, q4, hB⟩
    · have e0 : decide (2047 < x.1.2) = false := by simpa using h2
      gi_wp2_with (first | (refine ⟨trivial, fun _ => by omega, ?_⟩; gi_at_call 53; refine (CallsIn.inRound l (callsIn_wide.2 isKept_any)).mono ?_; rintro e w' ⟨rfl, rfl⟩) | (gi_at_builtin; refine wpListIn_append_own _ rfl _ _ 23 rfl (w.heap.size + 1) 3 i0 (.int .i64 0) 1 8 Tryd.underlying23 hi hz0 hz1 hz2 rfl (by decide) _ _ _ rfl (hrow.alloc _) ⟨W.heap.size, 0, none⟩ 1 1 [.int .i64 (x.1.2)] rfl rfl (cell_one_new _ _ _) (by simp [Value.oneCell']) (by unfold maxLen; omega) (by omega) (by have := q0.lt; simp; omega) ?_; intro v' w1 hown' hgrow _; obtain ⟨g', cap', rfl⟩ := ownsRow_succ hown'; obtain ⟨hv1, hv2, hr2, hk2, hb2⟩ := hv.appended (by decide) hrow (by have := q0.lt; omega) (by omega) hown' hgrow; have hc1 := hv1.cell; have hf1 := hv1.frozen; have o0 := (boxSame q0 hrow hgrow (B' := w.heap.size + 3) (by omega) (by omega) (.slice (some ⟨g', 0, none⟩) (ln + 1) cap')); have o1 := (boxOver q1 (by decide) hrow hgrow (B' := w.heap.size + 3) (by omega) (.slice (some ⟨g', 0, none⟩) (ln + 1) cap')); have o2 := (boxOver q2 (by decide) hrow hgrow (B' := w.heap.size + 3) (by omega) (.slice (some ⟨g', 0, none⟩) (ln + 1) cap')); have o4 := (boxOver q4 (by decide) hrow hgrow (B' := w.heap.size + 3) (by omega) (.slice (some ⟨g', 0, none⟩) (ln + 1) cap'))))
      exact ⟨hk2.from _, ⟨hb2.mono (by omega), o4.trans q4.symm⟩, ⟨_, hv2, by rw [List.map_append, List.map_singleton, madeL_snoc, ((kp_keep (.inl (by unfold ptOf; omega)) : kp md (ptOf x) = [ptOf x] ∧ stp md (ptOf x) = false).1 : kp md (ptOf x) = [x.1.2]), List.length_append, hln, List.map_append]; exact hr2, trivial⟩, by rw [List.map_append, List.map_singleton]; exact hruns.more (kp_keep (.inl (by unfold ptOf; omega)) : kp md (ptOf x) = [ptOf x] ∧ stp md (ptOf x) = false).2, o0, o1, o2, o4, hB.trans (hb2.mono (by omega))⟩
  case done =>
    rintro D ys W hD hS ⟨⟨v, hv, hrow, _⟩, hruns, q0, q1, q2, q4, hB⟩ hK
    have hc := hv.cell; have c1 := q1.cell; have c2 := q2.cell; have f1 := q1.frozen; have f2 := q2.frozen
    obtain ⟨A9, n9, c9, rfl⟩ : ∃ A9 n9 c9, v = .slice A9 n9 c9 := by rcases hrow.2 with ⟨rfl, _⟩ | ⟨g, cap, cur, rfl, _⟩ <;> exact ⟨_, _, _, rfl⟩
    gi_wp2
    have o1 := (q1.set (.slice A9 n9 c9)).other (B' := w.heap.size + 2) (by omega) (.bool true)
    have o2 := (q2.other (B' := w.heap.size + 1) (by omega) (.slice A9 n9 c9))
    have r1 : (W.setCell ⟨w.heap.size + 1, 0, none⟩ (.slice A9 n9 c9)).ownsRow (w.heap.size + 1) 3 1 (.slice A9 n9 c9) _ _ := hrow.kept (grownBy_setCell' W _ _) (.inr (q1.not_row (by decide) hrow).symm)
    have r2 := r1.kept (grownBy_setCell' _ (w.heap.size + 2) (.bool true)) (.inr (o2.not_row (by decide) r1).symm)
    have o3 := o2.set (.bool true)
    have hB2 : Below w.heap.size w ((W.setCell ⟨w.heap.size + 1, 0, none⟩ (.slice A9 n9 c9)).setCell ⟨w.heap.size + 2, 0, none⟩ (.bool true)) := (hB.setCell (p := ⟨w.heap.size + 1, 0, none⟩) (by show w.heap.size ≤ w.heap.size + 1; omega) _).setCell (p := ⟨w.heap.size + 2, 0, none⟩) (by show w.heap.size ≤ w.heap.size + 2; omega) _
    have hK' := ((KeepsOthers.setCell W ⟨w.heap.size + 1, 0, none⟩ (.slice A9 n9 c9)).trans (KeepsOthers.setCell _ ⟨w.heap.size + 2, 0, none⟩ (.bool true))).same D _ hK rfl
    rw [decB_all hS hruns] at OK ⊢
    clear hv hc c1 c2 f1 f2 q1 q2 q0 q4 o2 r1
    generalize (W.setCell ⟨w.heap.size + 1, 0, none⟩ (.slice A9 n9 c9)).setCell ⟨w.heap.size + 2, 0, none⟩ (.bool true) = W2 at *
    refine ⟨by simp, .inl ⟨_, _, rfl, run_takeDeferred hK', ?_⟩⟩
    have c5 := cell_kept o1.cell (grownBy_putObj' _ D (.deferred none)) (fun r e => by cases e; exact ⟨_, hK', rfl⟩)
    have c6 := cell_kept o3.cell (grownBy_putObj' _ D (.deferred none)) (fun r e => by cases e; exact ⟨_, hK', rfl⟩)
    have e : OwnI (W2.putObj D (.deferred none)) (w.heap.size + 1) (.slice A9 n9 c9) (madeL md (ys.map ptOf)).length (madeL md (ys.map ptOf)) := ownsRow_putObj r2 _ hK' rfl
    refine ⟨.tuple #[.slice A9 n9 c9, .bool true], ?_, listBPost_at (hB2.trans (belowK_b (w := w) (Nat.le_refl _) W2 D _ _ (by simp at hD; omega) hK' rfl rfl)) e (by omega) OK.out⟩
    simp [results, Tryd.results60, go_sem, c5, c6]
  case stop =>
    rintro D cd pre W hD hSp ⟨⟨rfl, k, hk, ⟨v, hv, hrow, _⟩, q2⟩, hB⟩ hK
    gi_wp2
    refine ⟨by simp, .inl ⟨_, _, rfl, run_takeDeferred hK, ?_⟩⟩
    rw [decB_stop hSp hk] at OK ⊢
    have c5 := cell_kept hv.cell (grownBy_putObj' _ D (.deferred none)) (fun r e => by cases e; exact ⟨_, hK, rfl⟩)
    have c6 := cell_kept q2.cell (grownBy_putObj' _ D (.deferred none)) (fun r e => by cases e; exact ⟨_, hK, rfl⟩)
    have e : OwnI (W.putObj D (.deferred none)) (w.heap.size + 1) v k.length k := ownsRow_putObj hrow _ hK rfl
    refine ⟨.tuple #[v, .bool false], ?_, listBPost_at (hB.trans (belowK_b (w := w) (Nat.le_refl _) W D _ _ (by simp at hD; omega) hK rfl rfl)) e (by omega) OK.out⟩
    simp [results, Tryd.results60, go_sem, c5, c6]
theorem decoded_any {A : Option Addr} {n c L B : Nat} {xs : List Int} {md : Int} {w : World} (h : Ints w L B A n xs) (hB : B ≤ w.heap.size) (hnc : n ≤ c) (hT : Tab w) (hv : bytes1 xs) :
    Calls Tryd.prog 60 #[.slice A n c, .int .i64 md] w (ListBPost (decB md xs).1 (decB md xs).2 w) := callsIn_wide.1 (decoded_in 9 (by omega) h hB hnc hT hv)
end Go.Proofs.YtkgjcoakeliocaaDoor
