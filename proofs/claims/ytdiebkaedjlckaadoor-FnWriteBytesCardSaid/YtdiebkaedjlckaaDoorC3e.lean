/- A writer's seek, the program's; SeekWriter. -/
import Derived.Test.YtdiebkaedjlckaaDoorC3d
import Derived.Test.YtdiebkaedjlckaaDoorC1h
namespace Go.Proofs.YtdiebkaedjlckaaDoor
open Go.ChangeShapes Go.WideShapes Go.ChangeAt Go.RowKit
set_option linter.unusedSimpArgs false
set_option linter.unusedVariables false
set_option maxRecDepth 10000

/-- The error of a place that is none is laid, too. -/
def ErrsS (w : World) (B : Nat) (a0 a1 a2 a3 : Addr) : Prop := Errs4 w B a0 a1 a2 a3 ∧ 3 < B ∧ w.cell? ⟨3, 0, none⟩ = some (errAt a3)
theorem ErrsS.blocks {w w' : World} {B : Nat} {a0 a1 a2 a3 : Addr} (h : ErrsS w B a0 a1 a2 a3) (hk : ∀ k, k < B → w'.heap[k]? = w.heap[k]?) : ErrsS w' B a0 a1 a2 a3 := by
  obtain ⟨⟨h0, h1, h2, h3, _⟩, h4, h5⟩ := h
  have h6 : w'.cell? ⟨3, 0, none⟩ = some (errAt a3) := (World.cell?_of_block (w := w) (a := ⟨3, 0, none⟩) (hk 3 h4)).trans h5
  exact ⟨⟨h0.blocks hk, h1, by rw [hk _ h1]; exact h2, h3, _, h4, h6⟩, h4, h6⟩
theorem ErrsS.below {w w' : World} {B C : Nat} {a0 a1 a2 a3 : Addr} (h : ErrsS w B a0 a1 a2 a3) (hb : Below C w w') (hB : B ≤ C) : ErrsS w' B a0 a1 a2 a3 := h.blocks fun k hk => hb.block k (by omega)
theorem ErrsS.turn {w w' : World} {B C b : Nat} {a0 a1 a2 a3 : Addr} (h : ErrsS w B a0 a1 a2 a3) (hb : Turn C b w w') (hB : B ≤ C) (hbB : B ≤ b) : ErrsS w' B a0 a1 a2 a3 := h.blocks fun k hk => hb.2.2.2.2 k (by omega) (by omega)
theorem errsS_of {W : World} {a0 a1 a2 a3 : Addr} (h : Errs W W.heap.size a0 a1 a2) (h3 : W.var? Tryd.prog "loop.example/streamlayers/impl.errPlace" = some #[errAt a3]) (n03 : a0 ≠ a3) (n13 : a1 ≠ a3) (n23 : a2 ≠ a3) (r3 : ∃ c t, W.heap[a3.block]? = some (.cells c t (0, 0))) : ErrsS W W.heap.size a0 a1 a2 a3 := by
  have g3 : W.cell? ⟨3, 0, none⟩ = some (errAt a3) := by simpa using World.var?_cell (P := Tryd.prog) (by kernel_rfl) h3 0
  have l3 := World.block_lt_of_cell? _ _ g3
  have lt : a3.block < W.heap.size := by
    obtain ⟨c, t, h⟩ := r3
    exact (Array.getElem?_eq_some_iff.1 h).1
  exact ⟨⟨h, lt, r3, ⟨Ne.symm n03, Ne.symm n13, Ne.symm n23⟩, _, l3, g3⟩, l3, g3⟩
/-- The error of a way in which a seek ends. -/
def errS (a0 a1 a2 a3 : Addr) (k : Int) : Value := if k = 5 then errAt a3 else errV a0 a1 a2 k
theorem errS_st {a0 a1 a2 a3 : Addr} {k : Int} (h : endSt k) : errS a0 a1 a2 a3 k = errV a0 a1 a2 k := by
  unfold errS
  rw [if_neg (by unfold endSt at h; omega)]
theorem endOfS_any {w : World} {B : Nat} {a0 a1 a2 a3 : Addr} {k : Int} (h : ErrsS w B a0 a1 a2 a3) (hk : endSt k ∨ k = 5) :
    Calls Tryd.prog 68 #[errS a0 a1 a2 a3 k] w fun e w' => e = .returned (.int .i64 k) ∧ w = w' := by
  rcases hk with hk | rfl
  · rw [errS_st hk]
    exact endOf_any h.1.1 hk
  · exact endOf_place h.1
/-- What a seek leaves, and how it ends. -/
def bsT (T : Fv) (off wh : Int) : Fv := if T.st = 0 ∧ seekOk (seekAt T.d.length T.p off wh) = true then { T with p := seekTo (seekAt T.d.length T.p off wh) } else T
def bsE (T : Fv) (off wh : Int) : Int := if T.st = 0 then (if seekOk (seekAt T.d.length T.p off wh) then 0 else 5) else T.st
theorem bsE_end {T : Fv} {off wh : Int} (h : endSt T.st) : endSt (bsE T off wh) ∨ bsE T off wh = 5 := by
  unfold bsE
  split
  · split
    · exact .inl (.inl rfl)
    · exact .inr rfl
  · exact .inl h
theorem bsT_valid {T : Fv} {S : List Int} {off wh : Int} (h : validD T.d T.p S (T.q : Int) = true) : validD (bsT T off wh).d (bsT T off wh).p S ((bsT T off wh).q : Int) = true := by
  unfold bsT
  split
  · obtain ⟨v1, v2, v3, v4, v5⟩ := validD_iff.1 h
    exact validD_iff.2 ⟨v1, v2, v3, seekTo_in, v5⟩
  · exact h
theorem bsT_r (T : Fv) (off wh : Int) : (bsT T off wh).r = T.r := by unfold bsT; split <;> rfl
def swOut (D : List Int) (p : Int) (S : List Int) (q : Int) (R : List Int) (z off wh : Int) : Rv × Int :=
  if goodW D p S q R z && (inB off (-60) 60 && inB wh 0 2) then (wvOf S z (bsT (fuGo S R.length D p q.toNat R) off wh), bsE (fuGo S R.length D p q.toNat R) off wh) else (Rv.zero, 5)
theorem swOut_le (D : List Int) (p : Int) (S : List Int) (q : Int) (R : List Int) (z off wh : Int) : LenW (swOut D p S q R z off wh) := by
  unfold swOut
  split
  · obtain ⟨hg, _⟩ := Bool.and_eq_true_iff.1 ‹_›
    obtain ⟨h1, h2, h3, h4, _⟩ := goodW_start hg
    obtain ⟨i1, i2, i3, i4, i5⟩ := fuGo_valid R.length D p q.toNat R h1 h4 (by omega)
    exact .of (bsT_valid i1) (by rw [bsT_r]; omega)
  · exact .zero _
def BSeekPost (lo b : Nat) (A' : Option Addr) (n' c' : Nat) (S : List Int) (z : Int) (a0 a1 a2 a3 : Addr) (T : Fv) (k : Int) (w : World) (e : Ending) (w' : World) : Prop :=
  ∃ A1 n1 c1 A5 n5 c5 M C M2 C2, e = .returned (errS a0 a1 a2 a3 k) ∧ Turn w.heap.size b w w' ∧ BackAt lo b A1 n1 c1 A' n' c' T.d S z T.p T.q A5 n5 c5 T.r M C M2 C2 w'
end Go.Proofs.YtdiebkaedjlckaaDoor
