/- Contracts of the drawing functions: the chooser. -/
import Derived.Test.YtmjmplfhedknhaaApp
import Derived.Deep.DeepCutAuto
namespace Go.Proofs.Ytmjmplfhedknhaa
open Go.ChangeShapes Go.WideShapes Go.ChangeAt Go.RowKit
set_option linter.unusedSimpArgs false
set_option linter.unusedVariables false

theorem xor_i64 (a b : Int) (h1 : 0 ≤ a) (h2 : a < 4611686018427387904) (h3 : 0 ≤ b) (h4 : b < 4611686018427387904) : ∃ n : Nat, bits .xor .i64 a b = (n : Int) ∧ n < 4611686018427387904 := by
  obtain ⟨x, rfl⟩ := Int.eq_ofNat_of_zero_le h1
  obtain ⟨y, rfl⟩ := Int.eq_ofNat_of_zero_le h3
  have hx : x ^^^ y < 2 ^ 62 := Nat.xor_lt_two_pow (by omega) (by omega)
  have e : ∀ z : Nat, z < 4611686018427387904 → (BitVec.ofInt 64 (z : Int)).toNat = z := fun z hz => by
    rw [BitVec.ofInt_natCast, BitVec.toNat_ofNat]
    exact Nat.mod_eq_of_lt (by omega)
  refine ⟨x ^^^ y, ?_, by omega⟩
  show IntKind.i64.wrap ((BitVec.ofInt 64 (x : Int) ^^^ BitVec.ofInt 64 (y : Int)).toNat : Int) = _
  rw [BitVec.toNat_xor, e x (by omega), e y (by omega), IntKind.wrap_i64]
  omega

/-- Bytes that can be read, below block hi. -/
def BytesIn (w : World) (hi : Nat) (A : Option Addr) (n : Nat) : Prop := 0 < n → ∃ b o, A = some ⟨b, o, none⟩ ∧ b < hi ∧ ∀ k, k < n → ∃ x : Int, 0 ≤ x ∧ x ≤ 255 ∧ w.cell? ⟨b, o + k, none⟩ = some (.int .u8 x)
theorem BytesIn.keep {w w' : World} {hi n : Nat} {A : Option Addr} (h : BytesIn w hi A n) (hk : ∀ b, b < hi → w'.heap[b]? = w.heap[b]?) : BytesIn w' hi A n := fun hn => by
  obtain ⟨b, o, e, hb, hc⟩ := h hn
  refine ⟨b, o, e, hb, fun k hk' => ?_⟩
  obtain ⟨x, h1, h2, h3⟩ := hc k hk'
  exact ⟨x, h1, h2, (World.cell?_of_block (w := w) (a := ⟨b, o + k, none⟩) (hk b hb)).trans h3⟩
/-- A chooser in block g that has picked at most P times. -/
def Ch (w : World) (g P : Nat) : Prop := ∃ A n c k, Box w g [.slice A n c, .int .i64 ((k : Nat) : Int)] ∧ BytesIn w g A n ∧ n ≤ 2000 ∧ k ≤ P
theorem Ch.below {w w' : World} {g P B : Nat} (h : Ch w g P) (hb : Below B w w') (hB : g < B) : Ch w' g P := by
  obtain ⟨A, n, c, k, hx, hy, hn, hk⟩ := h
  exact ⟨A, n, c, k, hx.below hb hB, hy.keep fun b hbb => hb.block b (by omega), hn, hk⟩
theorem Ch.lt {w : World} {g P : Nat} (h : Ch w g P) : g < w.heap.size := by
  obtain ⟨A, n, c, k, hx, _⟩ := h
  exact hx.lt
def PickPost (g P : Nat) (m : Int) (w : World) (e : Ending) (w' : World) : Prop :=
  ∃ r : Int, e = .returned (.int .i64 r) ∧ (0 ≤ r ∧ (1 ≤ m → r < m) ∧ (m < 1 → r = 0)) ∧ Ch w' g (P + 1) ∧ Turn w.heap.size g w w'

set_option maxRecDepth 100000 in
set_option maxHeartbeats 4000000 in
theorem pick_any {g P : Nat} {m : Int} {w : World} (h : Ch w g P) (hP : P ≤ 1000000) (hm : m ≤ 1000000) :
    Calls Try.prog 68 #[.pointer (some ⟨g, 0, none⟩), .int .i64 m] w (PickPost g P m w) := by
  obtain ⟨A, n, c, k, hx, hy, hn, hk⟩ := h
  have HX := Lib.hid hx
  have HY := Lib.hid hy
  clear hx hy
  have x0 := (HX.out.2 0 _ rfl).1
  have x1 := (HX.out.2 1 _ rfl).1
  have f1 := (HX.out.2 1 _ rfl).2
  go_enter Try.func68, Try.ntmps68
  go_upto_region 2 with (fail)
  have HX1 := Lib.hid (HX.out.put (i := 1) (by simp) (.int .i64 ((k : Int) + 1)))
  have HY1 := Lib.hid (HY.out.keep (w' := w.setCell ⟨g, 1, none⟩ (.int .i64 ((k : Int) + 1))) fun b hb => Below.heap_setCell w ⟨g, 1, none⟩ _ b (by show b ≠ g; omega))
  have HT := Lib.hid ((Turn.refl w.heap.size g w).put (o := 1) (.int .i64 ((k : Int) + 1)))
  clear x0 x1 f1 HX HY
  generalize w.setCell ⟨g, 1, none⟩ (.int .i64 ((k : Int) + 1)) = w1 at *
  have HCH : Hid (Ch w1 g (P + 1)) := ⟨A, n, c, k + 1, HX1.out, HY1.out, hn, by omega⟩
  have x0 := (HX1.out.2 0 _ rfl).1
  have x1 := (HX1.out.2 1 _ rfl).1
  by_cases hm1 : m < 1
  · go_wp2
    go_ret
    exact ⟨0, rfl, by omega, HCH.out, HT.out⟩
  · by_cases hn0 : n = 0
    · subst hn0
      go_wp2
      go_ret
      exact ⟨0, rfl, by omega, HCH.out, HT.out⟩
    · have hnz : ((n : Int) == 0) = false := by simp; omega
      obtain ⟨b, o, rfl, hb, hc⟩ := HY1.out (by omega)
      have HC := Lib.hid hc
      clear hc
      by_cases hkn : k < n
      · obtain ⟨x, hx0, hx1, hc⟩ := HC.out k hkn
        have hkn' : (k : Int) < (n : Int) := by omega
        go_wp2
        go_ret
        exact ⟨x % m, rfl, ⟨Int.emod_nonneg _ (by omega), fun _ => Int.emod_lt_of_pos _ (by omega), fun h => absurd h (by omega)⟩, HCH.out, HT.out⟩
      · have hkn' : (n : Int) ≤ (k : Int) := by omega
        have i1 : k % n < n := Nat.mod_lt _ (by omega)
        have i2 : (k * 7 + 3) % n < n := Nat.mod_lt _ (by omega)
        obtain ⟨x, hx0, hx1, hc⟩ := HC.out _ i1
        obtain ⟨y, hy0, hy1, hd⟩ := HC.out _ i2
        have hn1 : (1 : Int) ≤ (n : Int) := by omega
        have m1 : (0 : Int) ≤ (k : Int) := by omega
        have m2 : ((k : Int)).tmod (n : Int) = ((k % n : Nat) : Int) := rfl
        have m3 : ((k : Int) * 7 + 3).tmod (n : Int) = (((k * 7 + 3) % n : Nat) : Int) := rfl
        have m4 : ((k : Int)).tdiv (n : Int) = ((k / n : Nat) : Int) := rfl
        have b1 : ((k % n : Nat) : Int) < (n : Int) := by omega
        have b2 : (((k * 7 + 3) % n : Nat) : Int) < (n : Int) := by omega
        have b3 : (0 : Int) ≤ ((k % n : Nat) : Int) := by omega
        have b4 : (0 : Int) ≤ (((k * 7 + 3) % n : Nat) : Int) := by omega
        have c1 : (k : Int) % (n : Int) < (n : Int) := Int.emod_lt_of_pos _ (by omega)
        have c2 : (0 : Int) ≤ (k : Int) % (n : Int) := Int.emod_nonneg _ (by omega)
        have c3 : ((k : Int) * 7 + 3) % (n : Int) < (n : Int) := Int.emod_lt_of_pos _ (by omega)
        have c4 : (0 : Int) ≤ ((k : Int) * 7 + 3) % (n : Int) := Int.emod_nonneg _ (by omega)
        have c5 : ((k : Int) % (n : Int)).toNat = k % n := by omega
        have c6 : (((k : Int) * 7 + 3) % (n : Int)).toNat = (k * 7 + 3) % n := by
          have e : ((k : Int) * 7 + 3) % (n : Int) = (((k * 7 + 3) % n : Nat) : Int) := by rw [Int.natCast_emod]; rfl
          rw [e, Int.toNat_natCast]
        clear m2 m3 m4 b1 b2 b3 b4
        have c7 : (0 : Int) ≤ (k : Int) / (n : Int) := Int.ediv_nonneg (by omega) (by omega)
        have c8 : (k : Int) / (n : Int) ≤ 1000000 := by
          have : (k : Int) / (n : Int) = ((k / n : Nat) : Int) := by rw [Int.natCast_ediv]
          have h2 : k / n ≤ k := Nat.div_le_self _ _
          omega
        go_upto_region 7 with (fail)
        go_quiet (fail)
        go_upto_region 9 with (fail)
        generalize hX : x * 131 + y * 1117 + (k : Int) * 29 + (k : Int) / (n : Int) * 53 = X
        have hX0 : 0 ≤ X := by omega
        have hX1 : X ≤ 200000000 := by omega
        obtain ⟨z, hz, hzl⟩ := xor_i64 X (X / 64) (by omega) (by omega) (by omega) (by omega)
        try rw [hz]
        go_wp2
        go_ret
        exact ⟨(z : Int) % m, rfl, ⟨Int.emod_nonneg _ (by omega), fun _ => Int.emod_lt_of_pos _ (by omega), fun h => absurd h (by omega)⟩, HCH.out, HT.out⟩
end Go.Proofs.Ytmjmplfhedknhaa
