/- A plain file by the exact laws' own helpers: its size, its copy, its comparison, its marks; a plain file among a law's arguments. -/
import Derived.Test.YtjiecnideghffaaL6
namespace Go.Proofs.Ytjiecnideghffaa
open Go.ChangeShapes Go.WideShapes Go.ChangeAt Go.RowKit
set_option maxRecDepth 10000
set_option linter.unusedSimpArgs false
set_option linter.unusedVariables false

set_option maxHeartbeats 1000000 in
theorem szPlain_any {A : Option Addr} {n c : Nat} {p left : Int} {w : World} (hn : n ≤ 9223372036854775807) (h0 : 0 ≤ left) (h1 : left ≤ 1048576) :
    Calls Try.prog 54 #[.agg #[.slice (A) n c, .int .i64 (p)], .int .i64 left] w (SzPost left n w) := by
  go_enter Try.func54, Try.ntmps54
  go_wp2_with (go_at_call 67; refine (szIntS_any (by omega) (by omega) (by omega)).mono ?_; rintro e w' ⟨r1, rfl, hr1, rfl⟩)
  all_goals
    go_ret
    exact ⟨_, rfl, by omega, by go_grown⟩
/-- A plain file in new memory. -/
def PlnPost (D : List Int) (p : Int) (w : World) (e : Ending) (w' : World) : Prop :=
  ∃ A n c, e = .returned (.agg #[.slice (A) n c, .int .i64 (p)]) ∧ n ≤ c ∧ Below w.heap.size w w' ∧ Ints w' w.heap.size w'.heap.size A n D ∧ okInt p
theorem arg_plain {H : Type} {enc : TypeId × Value → H} {W : World} {base : Nat} {v : Value} {d : DataW H} {p0 : List MemPlace} (hval : Value.okWide Try.prog W .any base 74 v) (h : DataW.Trod enc Try.prog W 0 (fun _ => true) true 74 v d p0)
    (hlt : ∀ p ∈ p0, p.block < W.heap.size) (hfz : ∀ b off, MemPlace.cell b off ∈ p0 → W.frozen? ⟨b, off, none⟩ = false) :
    ∃ A n c p D, v = .agg #[.slice (A) n c, .int .i64 (p)] ∧ Ints W 0 W.heap.size A n D ∧ okInt p := by
  obtain ⟨v0, v1, y0, y1, n, rfl, _, rfl, h0, h1⟩ := Go.Joins.open_agg2 (P := Try.prog) Try.underlying74 (by kernel_rfl) (by kernel_rfl) hval h
  obtain ⟨A, n, c, D, rfl, _, _, hD⟩ := arg_ints Try.underlying22 Try.underlying3 cellsInt h0 (fun p hp => hlt p (by simp [hp])) (fun b o hp => hfz b o (by simp [hp]))
  obtain ⟨p, rfl, hp⟩ := arg_int Try.underlying3 h1
  exact ⟨A, n, c, p, D, rfl, hD, hp⟩

set_option maxHeartbeats 2000000 in
theorem toPlain_any {A : Option Addr} {n c : Nat} {D : List Int} {p : Int} {w : World} {L B : Nat} (h : Ints w L B A n D) (hB : B ≤ w.heap.size) (hn : n ≤ 1048576) (hp : okInt p) :
    Calls Try.prog 56 #[.agg #[.slice (A) n c, .int .i64 (p)]] w (PlnPost D p w) := by
  have H1 : Hid (Ints (((w.alloc (.cells #[.slice (A) n c, .int .i64 (p)] 74)).alloc (.cells #[.slice none 0 0, .int .i64 0] 70)).alloc (.cells #[.slice none 0 0, .int .i64 0] 70)) L B A n D) := ((h.alloc hB _).alloc (by first | omega | (simp; omega) | (simp; done)) _).alloc (by first | omega | (simp; omega) | (simp; done)) _
  have X0 : Hid (Box (((w.alloc (.cells #[.slice (A) n c, .int .i64 (p)] 74)).alloc (.cells #[.slice none 0 0, .int .i64 0] 70)).alloc (.cells #[.slice none 0 0, .int .i64 0] 70)) w.heap.size [.slice (A) n c, .int .i64 (p)]) := ((Box.new w 74 [.slice (A) n c, .int .i64 (p)]).alloc _).alloc _
  have R0 : Hid (Box (((w.alloc (.cells #[.slice (A) n c, .int .i64 (p)] 74)).alloc (.cells #[.slice none 0 0, .int .i64 0] 70)).alloc (.cells #[.slice none 0 0, .int .i64 0] 70)) (w.heap.size + 1) [.slice none 0 0, .int .i64 0]) := by
    have hx := (Box.new (w.alloc (.cells #[.slice (A) n c, .int .i64 (p)] 74)) 70 [.slice none 0 0, .int .i64 0]).alloc (.cells #[.slice none 0 0, .int .i64 0] 70)
    rw [World.size_alloc] at hx
    exact hx
  have O0 : Hid (Box (((w.alloc (.cells #[.slice (A) n c, .int .i64 (p)] 74)).alloc (.cells #[.slice none 0 0, .int .i64 0] 70)).alloc (.cells #[.slice none 0 0, .int .i64 0] 70)) (w.heap.size + 1 + 1) [.slice none 0 0, .int .i64 0]) := by
    have hx := Box.new ((w.alloc (.cells #[.slice (A) n c, .int .i64 (p)] 74)).alloc (.cells #[.slice none 0 0, .int .i64 0] 70)) 70 [.slice none 0 0, .int .i64 0]
    rw [World.size_alloc, World.size_alloc] at hx
    exact hx
  have E0 : Hid (Below w.heap.size w (((w.alloc (.cells #[.slice (A) n c, .int .i64 (p)] 74)).alloc (.cells #[.slice none 0 0, .int .i64 0] 70)).alloc (.cells #[.slice none 0 0, .int .i64 0] 70))) := (by go_grown : Below w.heap.size w _)
  have s0 : ((((w.alloc (.cells #[.slice (A) n c, .int .i64 (p)] 74)).alloc (.cells #[.slice none 0 0, .int .i64 0] 70)).alloc (.cells #[.slice none 0 0, .int .i64 0] 70))).heap.size = w.heap.size + 3 := by simp
  clear h
  have x0 := (X0.out.2 0 _ rfl).1; have x1 := (X0.out.2 1 _ rfl).1
  go_enter Try.func56, Try.ntmps56
  go_wp2_with fail
  generalize (((w.alloc (.cells #[.slice (A) n c, .int .i64 (p)] 74)).alloc (.cells #[.slice none 0 0, .int .i64 0] 70)).alloc (.cells #[.slice none 0 0, .int .i64 0] 70)) = w0 at *
  clear x0 x1
  refine (toIntS_b H1.out (by omega) hn).mono ?_
  rintro e w1 ⟨A1, c1, rfl, hc1, hb1, hi1⟩
  have s1 := hb1.size
  have X1 := Lib.hid (X0.out.below hb1 (by omega))
  have R1 := Lib.hid (R0.out.below hb1 (by omega))
  have O1 := Lib.hid (O0.out.below hb1 (by omega))
  have E1 := Lib.hid (below_step hb1 E0.out (by omega))
  have HI := Lib.hid hi1
  clear hb1 hi1 X0 R0 O0 E0 H1
  have x0 := (X1.out.2 0 _ rfl).1; have x1 := (X1.out.2 1 _ rfl).1
  have o0 := (O1.out.2 0 _ rfl).1; have o1 := (O1.out.2 1 _ rfl).1
  have f0 := (O1.out.2 0 _ rfl).2; have f1 := (O1.out.2 1 _ rfl).2
  have r0 := (R1.out.2 0 _ rfl).1; have r1 := (R1.out.2 1 _ rfl).1
  have g0 := (R1.out.2 0 _ rfl).2; have g1 := (R1.out.2 1 _ rfl).2
  go_wp2
  refine bodyPost_ret (v := .agg #[.slice (A1) n c1, .int .i64 (p)]) (by simp [results, Try.results56, go_sem, x0, x1, o0, o1, f0, f1, r0, r1, g0, g1]) rfl ?_
  refine ⟨_, _, _, rfl, hc1, ?_, ?_, hp⟩
  · (repeat (with_reducible refine below_set ?_ (by omega) _))
    exact E1.out
  · simp only [World.size_setCell]
    refine Ints.more (lo := w0.heap.size) (hi := w1.heap.size) ?_ (by omega) (by omega)
    (repeat (with_reducible refine Ints.set_ ?_ (by omega) _))
    exact HI.out

set_option maxHeartbeats 2000000 in
theorem eqPlain_same {A X : Option Addr} {n c k d : Nat} {D : List Int} {p : Int} {w : World} {L B U V : Nat}
    (h : Ints w L B A n D) (i : Ints w U V X k D) (hB : B ≤ w.heap.size) (hV : V ≤ w.heap.size) :
    Calls Try.prog 51 #[.agg #[.slice (A) n c, .int .i64 (p)], .agg #[.slice (X) k d, .int .i64 (p)]] w (BoolB true w) := by
  have H1 := Lib.hid ((h.alloc hB (.cells #[.slice (A) n c, .int .i64 (p)] 70)).alloc (by first | omega | (simp; omega) | (simp; done)) (.cells #[.slice (X) k d, .int .i64 (p)] 70))
  have I1 := Lib.hid ((i.alloc hV (.cells #[.slice (A) n c, .int .i64 (p)] 70)).alloc (by first | omega | (simp; omega) | (simp; done)) (.cells #[.slice (X) k d, .int .i64 (p)] 70))
  have X0 := Lib.hid ((Box.new w 70 [.slice (A) n c, .int .i64 (p)]).alloc (.cells #[.slice (X) k d, .int .i64 (p)] 70))
  have Y0 := Lib.hid (Box.new (w.alloc (.cells #[.slice (A) n c, .int .i64 (p)] 70)) 70 [.slice (X) k d, .int .i64 (p)])
  (try simp only [World.size_alloc, World.size_setCell, World.size_drew] at Y0)
  clear h i
  go_enter Try.func51, Try.ntmps51
  go_wp2_with fail
  refine (eqIntS_same H1.out I1.out).mono ?_
  rintro e w1 ⟨rfl, hb⟩
  (try simp only [World.size_alloc, World.size_setCell, World.size_drew] at hb)
  have X1 := Lib.hid (X0.out.below hb (by omega))
  have Y1 := Lib.hid (Y0.out.below hb (by omega))
  have E1 : Hid (Below w.heap.size w w1) := below_step hb (by go_grown) (by omega)
  clear hb X0 Y0 H1 I1
  have x0 := (X1.out.2 0 _ rfl).1; have x1 := (X1.out.2 1 _ rfl).1
  have y0 := (Y1.out.2 0 _ rfl).1; have y1 := (Y1.out.2 1 _ rfl).1
  go_wp2
  go_ret
  exact ⟨rfl, E1.out⟩

theorem Ints.markP {w w' : World} {A X : Option Addr} {n m lo hi : Nat} {xs : List Int} (h : Ints w lo hi X m xs) (hm : MarkD w w' A n none 0) (hB : hi ≤ w.heap.size) (ha : Apart A n X m) : Ints w' lo hi X m xs := h.markD hm hB ha Apart.zero.symm
theorem Box.markP {w w' : World} {A : Option Addr} {n lo hi b : Nat} {xs : List Int} {cs : List Value} (hx : Box w b cs) (hm : MarkD w w' A n none 0) (h : Ints w lo hi A n xs) (hb : b < lo ∨ hi ≤ b) : Box w' b cs := hx.markD hm h (Ints.nil w 0 0 0 none).1 hb (.inr (Nat.zero_le _))
theorem below_markP {a w w' : World} {A : Option Addr} {n lo hi B : Nat} {xs : List Int} (hx : Below B a w) (hm : MarkD w w' A n none 0) (h : Ints w lo hi A n xs) (hb : B ≤ lo) (hB : B ≤ w.heap.size) : Below B a w' := below_markD hx hm h (Ints.nil w B B 0 none).1 hb (Nat.le_refl _) hB
def MarkPPost (A : Option Addr) (n lo hi : Nat) (k : Int) (w : World) (e : Ending) (w' : World) : Prop :=
  e = .returned (.int .i64 (k + (n : Int))) ∧ MarkD w w' A n none 0 ∧ Ints w' lo hi A n (seqI k n)
set_option maxHeartbeats 1000000 in
theorem markPlain_any {A : Option Addr} {n c : Nat} {D : List Int} {p k : Int} {w : World} {L B : Nat} (h : Ints w L B A n D) (hB : B ≤ w.heap.size) (hk : 0 ≤ k) (hk2 : k ≤ 100000000) (hn : n ≤ 1048576) :
    Calls Try.prog 52 #[.agg #[.slice (A) n c, .int .i64 (p)], .int .i64 k] w (MarkPPost A n L B k w) := by
  have H1 := Lib.hid (h.alloc hB (.cells #[.slice (A) n c, .int .i64 (p)] 70))
  go_enter Try.func52, Try.ntmps52
  go_wp2_with fail
  refine (markIntS_any H1.out hk (by omega) hn).mono ?_
  rintro e w1 ⟨rfl, hm1, hi1⟩
  have HM1 := Lib.hid hm1
  have HI1 := Lib.hid hi1
  have s1 := Lib.hid hm1.size
  clear hm1 hi1
  go_wp2
  go_ret
  have e1 := s1.out
  simp only [World.size_alloc] at e1
  refine ⟨rfl, ⟨HM1.out.1, HM1.out.2.1, HM1.out.2.2.1, by omega, fun b hb hx _ => ?_, fun b o hb hx _ => ?_⟩, HI1.out⟩
  · exact (HM1.out.2.2.2.2.1 b hx).trans (Below.heap_alloc w _ b hb)
  · exact (SameAt.of_block (Below.heap_alloc w _ b hb)).trans (HM1.out.2.2.2.2.2 b o hx)
set_option maxHeartbeats 1000000 in
theorem heldPlain_any {A : Option Addr} {n c : Nat} {p k : Int} {w : World} {L B : Nat} (h : Ints w L B A n (seqI k n)) (hB : B ≤ w.heap.size) (hk : 0 ≤ k) (hk2 : k ≤ 100000000) (hn : n ≤ 1048576) :
    Calls Try.prog 53 #[.agg #[.slice (A) n c, .int .i64 (p)], .int .i64 k] w fun e w' => e = .returned (.int .i64 (k + (n : Int))) ∧ Below w.heap.size w w' := by
  have H1 := Lib.hid (h.alloc hB (.cells #[.slice (A) n c, .int .i64 (p)] 70))
  go_enter Try.func53, Try.ntmps53
  go_wp2_with fail
  refine (heldIntS_any H1.out hk (by omega) hn).mono ?_
  rintro e w1 ⟨rfl, rfl⟩
  go_wp2
  go_ret
  exact ⟨rfl, by go_grown⟩
end Go.Proofs.Ytjiecnideghffaa
