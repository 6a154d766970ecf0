/- Contracts of the drawing functions: the chooser. -/
import Derived.Test.YtdiebkaedjlckaaDoorApp2
import Derived.Deep.DeepCutAuto
namespace Go.Proofs.YtdiebkaedjlckaaDoor
section
open Go.ChangeShapes Go.WideShapes Go.ChangeAt Go.RowKit
set_option linter.unusedSimpArgs false
set_option linter.unusedVariables false

theorem xor_i64 (a b : Int) (h1 : 0 ≤ a) (h2 : a < 4611686018427387904) (h3 : 0 ≤ b) (h4 : b < 4611686018427387904) : ∃ n : Nat, bits .xor .i64 a b = (n : Int) ∧ n < 4611686018427387904 := by
  obtain ⟨x, rfl⟩ := Int.eq_ofNat_of_zero_le h1
  obtain ⟨y, rfl⟩ := Int.eq_ofNat_of_zero_le h3
  have hx : x ^^^ y < 2 ^ 62 := Nat.xor_lt_two_pow (by omega) (by omega)
  have e : ∀ z : Nat, z < 4611686018427387904 → (BitVec.ofInt 64 (z : Int)).toNat = z := fun z hz => by
    rw [BitVec.ofInt_natCast, BitVec.toNat_ofNat]
    exact Nat.mod_eq_of_lt (by omega)
  refine ⟨x ^^^ y, ?_, by omega⟩
  show IntKind.i64.wrap ((BitVec.ofInt 64 (x : Int) ^^^ BitVec.ofInt 64 (y : Int)).toNat : Int) = _
  rw [BitVec.toNat_xor, e x (by omega), e y (by omega), IntKind.wrap_i64]
  omega

/-- Bytes that can be read, below block hi. -/
def BytesIn (w : World) (hi : Nat) (A : Option Addr) (n : Nat) : Prop := 0 < n → ∃ b o, A = some ⟨b, o, none⟩ ∧ b < hi ∧ ∀ k, k < n → ∃ x : Int, 0 ≤ x ∧ x ≤ 255 ∧ w.cell? ⟨b, o + k, none⟩ = some (.int .u8 x)
theorem BytesIn.keep {w w' : World} {hi n : Nat} {A : Option Addr} (h : BytesIn w hi A n) (hk : ∀ b, b < hi → w'.heap[b]? = w.heap[b]?) : BytesIn w' hi A n := fun hn => by
  obtain ⟨b, o, e, hb, hc⟩ := h hn
  refine ⟨b, o, e, hb, fun k hk' => ?_⟩
  obtain ⟨x, h1, h2, h3⟩ := hc k hk'
  exact ⟨x, h1, h2, (World.cell?_of_block (w := w) (a := ⟨b, o + k, none⟩) (hk b hb)).trans h3⟩
/-- A chooser in block g that has picked at most P times. -/
def Ch (w : World) (g P : Nat) : Prop := ∃ A n c k, Box w g [.slice A n c, .int .i64 ((k : Nat) : Int)] ∧ BytesIn w g A n ∧ n ≤ 2000 ∧ k ≤ P
theorem Ch.below {w w' : World} {g P B : Nat} (h : Ch w g P) (hb : Below B w w') (hB : g < B) : Ch w' g P := by
  obtain ⟨A, n, c, k, hx, hy, hn, hk⟩ := h
  exact ⟨A, n, c, k, hx.below hb hB, hy.keep fun b hbb => hb.block b (by omega), hn, hk⟩
theorem Ch.lt {w : World} {g P : Nat} (h : Ch w g P) : g < w.heap.size := by
  obtain ⟨A, n, c, k, hx, _⟩ := h
  exact hx.lt
def PickPost (g P : Nat) (m : Int) (w : World) (e : Ending) (w' : World) : Prop :=
  ∃ r : Int, e = .returned (.int .i64 r) ∧ (0 ≤ r ∧ (1 ≤ m → r < m) ∧ (m < 1 → r = 0)) ∧ Ch w' g (P + 1) ∧ Turn w.heap.size g w w'

set_option maxRecDepth 100000 in
set_option maxHeartbeats 4000000 in
theorem pick_any {g P : Nat} {m : Int} {w : World} (h : Ch w g P) (hP : P ≤ 1000000) (hm : m ≤ 1000000) :
    Calls Tryd.prog 112 #[.pointer (some ⟨g, 0, none⟩), .int .i64 m] w (PickPost g P m w) := by
  obtain ⟨A, n, c, k, hx, hy, hn, hk⟩ := h
  have HX := Lib.hid hx
  have HY := Lib.hid hy
  clear hx hy
  have x0 := (HX.out.2 0 _ rfl).1
  have x1 := (HX.out.2 1 _ rfl).1
  have f1 := (HX.out.2 1 _ rfl).2
  go_enter Tryd.func112, Tryd.ntmps112
  go_upto_region 2 with (fail)
  have HX1 := Lib.hid (HX.out.put (i := 1) (by simp) (.int .i64 ((k : Int) + 1)))
  have HY1 := Lib.hid (HY.out.keep (w' := w.setCell ⟨g, 1, none⟩ (.int .i64 ((k : Int) + 1))) fun b hb => Below.heap_setCell w ⟨g, 1, none⟩ _ b (by show b ≠ g; omega))
  have HT := Lib.hid ((Turn.refl w.heap.size g w).put (o := 1) (.int .i64 ((k : Int) + 1)))
  clear x0 x1 f1 HX HY
  generalize w.setCell ⟨g, 1, none⟩ (.int .i64 ((k : Int) + 1)) = w1 at *
  have HCH : Hid (Ch w1 g (P + 1)) := ⟨A, n, c, k + 1, HX1.out, HY1.out, hn, by omega⟩
  have x0 := (HX1.out.2 0 _ rfl).1
  have x1 := (HX1.out.2 1 _ rfl).1
  by_cases hm1 : m < 1
  · go_wp2
    go_ret
    exact ⟨0, rfl, by omega, HCH.out, HT.out⟩
  · by_cases hn0 : n = 0
    · subst hn0
      go_wp2
      go_ret
      exact ⟨0, rfl, by omega, HCH.out, HT.out⟩
    · have hnz : ((n : Int) == 0) = false := by simp; omega
      obtain ⟨b, o, rfl, hb, hc⟩ := HY1.out (by omega)
      have HC := Lib.hid hc
      clear hc
      by_cases hkn : k < n
      · obtain ⟨x, hx0, hx1, hc⟩ := HC.out k hkn
        have hkn' : (k : Int) < (n : Int) := by omega
        go_wp2
        go_ret
        exact ⟨x % m, rfl, ⟨Int.emod_nonneg _ (by omega), fun _ => Int.emod_lt_of_pos _ (by omega), fun h => absurd h (by omega)⟩, HCH.out, HT.out⟩
      · have hkn' : (n : Int) ≤ (k : Int) := by omega
        have i1 : k % n < n := Nat.mod_lt _ (by omega)
        have i2 : (k * 7 + 3) % n < n := Nat.mod_lt _ (by omega)
        obtain ⟨x, hx0, hx1, hc⟩ := HC.out _ i1
        obtain ⟨y, hy0, hy1, hd⟩ := HC.out _ i2
        have hn1 : (1 : Int) ≤ (n : Int) := by omega
        have m1 : (0 : Int) ≤ (k : Int) := by omega
        have m2 : ((k : Int)).tmod (n : Int) = ((k % n : Nat) : Int) := rfl
        have m3 : ((k : Int) * 7 + 3).tmod (n : Int) = (((k * 7 + 3) % n : Nat) : Int) := rfl
        have m4 : ((k : Int)).tdiv (n : Int) = ((k / n : Nat) : Int) := rfl
        have b1 : ((k % n : Nat) : Int) < (n : Int) := by omega
        have b2 : (((k * 7 + 3) % n : Nat) : Int) < (n : Int) := by omega
        have b3 : (0 : Int) ≤ ((k % n : Nat) : Int) := by omega
        have b4 : (0 : Int) ≤ (((k * 7 + 3) % n : Nat) : Int) := by omega
        have c1 : (k : Int) % (n : Int) < (n : Int) := Int.emod_lt_of_pos _ (by omega)
        have c2 : (0 : Int) ≤ (k : Int) % (n : Int) := Int.emod_nonneg _ (by omega)
        have c3 : ((k : Int) * 7 + 3) % (n : Int) < (n : Int) := Int.emod_lt_of_pos _ (by omega)
        have c4 : (0 : Int) ≤ ((k : Int) * 7 + 3) % (n : Int) := Int.emod_nonneg _ (by omega)
        have c5 : ((k : Int) % (n : Int)).toNat = k % n := by omega
        have c6 : (((k : Int) * 7 + 3) % (n : Int)).toNat = (k * 7 + 3) % n := by
          have e : ((k : Int) * 7 + 3) % (n : Int) = (((k * 7 + 3) % n : Nat) : Int) := by rw [Int.natCast_emod]; rfl
          rw [e, Int.toNat_natCast]
        clear m2 m3 m4 b1 b2 b3 b4
        have c7 : (0 : Int) ≤ (k : Int) / (n : Int) := Int.ediv_nonneg (by omega) (by omega)
        have c8 : (k : Int) / (n : Int) ≤ 1000000 := by
          have : (k : Int) / (n : Int) = ((k / n : Nat) : Int) := by rw [Int.natCast_ediv]
          have h2 : k / n ≤ k := Nat.div_le_self _ _
          omega
        go_upto_region 7 with (fail)
        go_quiet (fail)
        go_upto_region 9 with (fail)
        generalize hX : x * 131 + y * 1117 + (k : Int) * 29 + (k : Int) / (n : Int) * 53 = X
        have hX0 : 0 ≤ X := by omega
        have hX1 : X ≤ 200000000 := by omega
        obtain ⟨z, hz, hzl⟩ := xor_i64 X (X / 64) (by omega) (by omega) (by omega) (by omega)
        try rw [hz]
        go_wp2
        go_ret
        exact ⟨(z : Int) % m, rfl, ⟨Int.emod_nonneg _ (by omega), fun _ => Int.emod_lt_of_pos _ (by omega), fun h => absurd h (by omega)⟩, HCH.out, HT.out⟩
end
section
open Go.ChangeShapes Go.WideShapes Go.ChangeAt Go.RowKit
set_option linter.unusedSimpArgs false
set_option linter.unusedVariables false

def OnePost (g P : Nat) (xs : List Int) (w : World) (e : Ending) (w' : World) : Prop :=
  ∃ x ∈ xs, e = .returned (.int .i64 x) ∧ Ch w' g (P + 1) ∧ Turn w.heap.size g w w'

set_option maxHeartbeats 1000000 in
theorem one_any {g P lo hi n c : Nat} {A : Option Addr} {xs : List Int} {w : World} (h : Ch w g P) (hP : P ≤ 1000000) (hI : Ints w lo hi A n xs) (hn : 1 ≤ n) (hn2 : n ≤ 1000000) (hc : n ≤ c) (hh : hi ≤ w.heap.size) (hg : g < lo ∨ hi ≤ g) :
    Calls Tryd.prog 113 #[.pointer (some ⟨g, 0, none⟩), .slice A n c] w (OnePost g P xs w) := by
  have HCH := Lib.hid h
  have HI := Lib.hid hI
  clear h hI
  go_enter Tryd.func113, Tryd.ntmps113
  go_wp2_with fail
  refine (pick_any HCH.out hP (by omega)).mono ?_
  rintro e w1 ⟨r, rfl, ⟨hr0, hr1, _⟩, hch, ht⟩
  have hr2 := hr1 (by omega)
  clear hr1
  obtain ⟨r, rfl⟩ := Int.eq_ofNat_of_zero_le hr0
  have HI1 := Lib.hid (HI.out.turn ht hh hg)
  have HC := Lib.hid hch
  have HT := Lib.hid ht
  clear hch ht
  have hl := HI1.out.1
  have hx : xs[r]? = some (xs[r]'(by omega)) := List.getElem?_eq_getElem (by omega)
  obtain ⟨b, o, rfl, hb1, hb2, hcs⟩ := HI1.out.2.2.2 (by omega)
  have hcell := (hcs r _ hx).1
  have HM := Lib.hid (List.getElem_mem (l := xs) (n := r) (by omega))
  clear hcs hx
  generalize hX : xs[r]'(by omega) = X at *
  go_wp2
  go_ret
  exact ⟨X, HM.out, rfl, HC.out, HT.out⟩
end
section
open Go.ChangeShapes Go.WideShapes Go.ChangeAt Go.RowKit
set_option linter.unusedSimpArgs false
set_option linter.unusedVariables false

theorem Ints.of_box {w : World} {b : Nat} {xs : List Int} {n : Nat} (h : Box w b (xs.map (Value.int .i64))) (hn : n = xs.length) (hm : n ≤ 1000000) (hok : ∀ x ∈ xs, okInt x) :
    Ints w b (b + 1) (some ⟨b, 0, none⟩) n xs :=
  ⟨hn, by omega, hok, fun _ => ⟨b, 0, rfl, Nat.le_refl _, Nat.lt_succ_self _, fun j x hx => by
    rw [Nat.zero_add]
    exact h.2 j (.int .i64 x) (by simp [hx])⟩⟩

theorem Ch.alloc {w : World} {g P : Nat} (h : Ch w g P) (o : Obj) : Ch (w.alloc o) g P := h.below (Below.alloc (Below.refl _ _) (Nat.le_refl _) o) h.lt

theorem Ch.more {w : World} {g P P' : Nat} (h : Ch w g P) (hP : P ≤ P') : Ch w g P' := by
  obtain ⟨A, n, c, k, hx, hy, hn, hk⟩ := h
  exact ⟨A, n, c, k, hx, hy, hn, by omega⟩
/-- One of a list that was just made. -/
theorem one_lit {g P n b : Nat} {t : TypeId} {w : World} {cs : Array Value} (xs : List Int) (h : Ch w g P) (hP : P ≤ 1000000) (hb : b = w.heap.size) (hcs : cs = (xs.map (Value.int .i64)).toArray) (hn : n = xs.length) (hn1 : 1 ≤ n) (hn2 : n ≤ 1000000) (hok : ∀ x ∈ xs, -1000000 ≤ x ∧ x ≤ 1000000) :
    Calls Tryd.prog 113 #[.pointer (some ⟨g, 0, none⟩), .slice (some ⟨b, 0, none⟩) n n] (w.alloc (.cells cs t)) (OnePost g P xs w) := by
  subst hcs
  subst hb
  have hI := Ints.of_box (Box.new w t (xs.map (Value.int .i64))) hn hn2 fun x hx => by have := hok x hx; unfold okInt; omega
  refine (one_any (h.alloc _) hP hI hn1 hn2 (Nat.le_refl _) (by simp) (.inl h.lt)).mono ?_
  rintro e w1 ⟨x, hx, rfl, hch, ht⟩
  exact ⟨x, hx, rfl, hch, (Turn.of_below (Below.alloc (Below.refl _ _) (Nat.le_refl _) _) (Nat.le_refl _)).trans (ht.mono (by simp))⟩

set_option maxHeartbeats 1000000 in
theorem aByte_any {g P : Nat} {w : World} (h : Ch w g P) (hP : P ≤ 990000) :
    Calls Tryd.prog 135 #[.pointer (some ⟨g, 0, none⟩)] w (fun e w' => ∃ x : Int, (0 ≤ x ∧ x ≤ 255) ∧ e = .returned (.int .i64 x) ∧ Ch w' g (P + 2) ∧ Turn w.heap.size g w w') := by
  have HCH := Lib.hid h
  clear h
  go_enter Tryd.func135, Tryd.ntmps135
  go_wp2_with fail
  refine (pick_any HCH.out (by omega) (by decide)).mono ?_
  rintro e w1 ⟨r, rfl, ⟨hr0, hr1, _⟩, hch, ht⟩
  have hr2 := hr1 (by decide)
  clear hr1
  have HC := Lib.hid hch
  have HT := Lib.hid ht
  clear hch ht
  go_wp2_with fail
  refine (one_lit [97, 98, 10, 13, 0, 195, 164, 200, 255, r, 32, 13, 10] HC.out (by omega) rfl rfl rfl (by simp) (by simp) (fun x hx => by simp at hx; omega)).mono ?_
  rintro e w2 ⟨x, hx, rfl, hch, ht⟩
  have HC2 := Lib.hid hch
  have HT2 := Lib.hid ht
  clear hch ht
  have hx2 : 0 ≤ x ∧ x ≤ 255 := by simp at hx; omega
  clear hx
  go_wp2
  go_ret
  exact ⟨x, hx2, rfl, HC2.out, HT.out.trans (HT2.out.mono HT.out.size)⟩
end
section
open Go.ChangeShapes Go.WideShapes Go.ChangeAt Go.RowKit
set_option linter.unusedSimpArgs false
set_option linter.unusedVariables false

theorem turn_grown {w w1 w' : World} {base n g : Nat} {v : Value} {xs : List Int} (h : OwnI w1 base v n xs) (hg : w1.grownBy w' v.ownBlock) (hb : base ≤ w1.heap.size) (ht : Turn base g w w1) : Turn base g w w' :=
  ht.step (below_grown h hg hb) (Nat.le_refl _)
theorem one_int (w : World) (x : Int) (h1 : -1000000 ≤ x) (h2 : x ≤ 1000000) : Ints (w.alloc (.cells #[.int .i64 x] 3)) w.heap.size (w.heap.size + 1) (some ⟨w.heap.size, 0, none⟩) 1 [x] :=
  Ints.of_box (xs := [x]) (Box.new w _ [.int .i64 x]) rfl (by decide) (by intro y hy; simp at hy; subst hy; unfold okInt; omega)

/-- A row of the call's own, drawn by the chooser in block g. -/
def RowPost (g P : Nat) (Q : List Int → Prop) (w : World) (e : Ending) (w' : World) : Prop :=
  ∃ v xs, e = .returned v ∧ Q xs ∧ OwnI w' w.heap.size v xs.length xs ∧ Ch w' g P ∧ Turn w.heap.size g w w'

set_option maxHeartbeats 2000000 in
theorem someBytes_any {g P : Nat} {w : World} (h : Ch w g P) (hP : P ≤ 900000) :
    Calls Tryd.prog 114 #[.pointer (some ⟨g, 0, none⟩)] w (RowPost g (P + 100) (fun xs => xs.length ≤ 40 ∧ ∀ x ∈ xs, 0 ≤ x ∧ x ≤ 255) w) := by
  have hg := h.lt
  have HCH := Lib.hid (h.alloc (.cells #[] 3))
  clear h
  go_enter Tryd.func114, Tryd.ntmps114
  go_wp2_with fail
  refine (one_lit [6, 8, 4, 12, 20, 1, 0, 40] HCH.out (by omega) (by simp) rfl rfl (by decide) (by decide) (by decide)).mono ?_
  rintro e w1 ⟨x, hx, rfl, hch, ht⟩
  have hx2 : 0 ≤ x ∧ x ≤ 40 := by simp at hx; omega
  obtain ⟨N, rfl⟩ := Int.eq_ofNat_of_zero_le hx2.1
  have HC := Lib.hid hch
  have HT := Lib.hid ((Turn.of_below (Below.alloc (Below.refl _ _) (Nat.le_refl _) _) (Nat.le_refl _)).trans (ht.mono (by simp)))
  have HO := Lib.hid ((OwnI.made w (Nat.le_refl _)).turn ht (Nat.le_refl _) hg)
  clear hch ht hx HCH
  go_wp2
  go_loopw [3, 4] (fun o i wr => ∃ A2 k c2 j xs, o = .slice A2 k c2 ∧ i = .int .i64 ((j : Nat) : Int) ∧ k + j ≤ 40 ∧ k = xs.length ∧ (∀ x ∈ xs, 0 ≤ x ∧ x ≤ 255) ∧ Hid (OwnI wr w.heap.size (.slice A2 k c2) k xs) ∧ Hid (Ch wr g (P + 1 + 2 * k)) ∧ Hid (Turn w.heap.size g w wr)) (fun _ i _ => (intOf i).toNat)
  case atStart => exact ⟨_, 0, 0, N, [], rfl, rfl, by omega, rfl, by simp, HO.out, HC.out, HT.out⟩
  case round =>
    obtain ⟨A2, k, c2, j, xs, rfl, rfl, hkj, hkl, hxs, hown, hch, ht⟩ := hrel
    subst hkl
    have HX := Lib.hid hxs
    clear hxs
    have hsz := ht.out.size
    by_cases hlt : (0 : Int) < (j : Int)
    · go_wp2_with fail
      refine (aByte_any hch.out (by omega)).mono ?_
      rintro e wa ⟨x, hx, rfl, hcha, hta⟩
      have hown1 := hown.out.turn hta (Nat.le_refl _) hg
      have ht1 := ht.out.trans (hta.mono hsz)
      have HOWN1 := Lib.hid hown1
      have HCH1 := Lib.hid hcha
      have HT1 := Lib.hid ht1
      clear hown1 hcha ht1 hta
      have hsz1 := HT1.out.size
      go_wp2_with (at_builtin; refine wpList_append_ints rfl (.tmp 13) (.tmp 16) rfl w.heap.size (.slice A2 xs.length c2) xs.length _ rfl (HOWN1.out.alloc _) (some ⟨wa.heap.size, 0, none⟩) 1 1 [x] rfl (one_int wa x (by omega) (by omega)) (by omega) (by simp; omega) ?_)
      intro v' w' hown' hg'
      have hbe' := ((HT1.out.step (Below.alloc (Below.refl _ _) (Nat.le_refl _) _) hsz1)).trans (Turn.of_below (below_grown (HOWN1.out.alloc (.cells #[.int .i64 x] 3)) hg' (by simp; omega)) (Nat.le_refl _))
      have hbc := below_grown (HOWN1.out.alloc (.cells #[.int .i64 x] 3)) hg' (by simp; omega)
      have hch' := (HCH1.out.alloc (.cells #[.int .i64 x] 3)).below hbc hg
      obtain ⟨A3, c3, rfl, _, _⟩ := hown'.ints (fun y hy => by
        rcases List.mem_append.1 hy with h2 | h2
        · have := HX.out y h2; unfold okInt; omega
        · simp at h2; subst h2; unfold okInt; omega)
      have hxs' : ∀ y ∈ xs ++ [x], 0 ≤ y ∧ y ≤ 255 := fun y hy => by
        rcases List.mem_append.1 hy with h2 | h2
        · exact HX.out y h2
        · simp at h2; subst h2; exact hx
      have HO' := Lib.hid hown'
      have HB' := Lib.hid hbe'
      have HC' := Lib.hid hch'
      have HX' := Lib.hid hxs'
      clear hown' hbe' hg' hch' hbc hxs'
      go_wp2
      go_roundw
      case rel => exact ⟨A3, xs.length + 1, c3, j - 1, xs ++ [x], rfl, by go_num, by omega, by simp, HX'.out, HO'.out, HC'.out.more (by omega), HB'.out⟩
      case measure => simp [intOf]; omega
    · go_wp2
      go_ret
      have hl := HX.out
      exact ⟨_, xs, rfl, ⟨by omega, hl⟩, hown.out, hch.out.more (by omega), ht.out⟩
end
end Go.Proofs.YtdiebkaedjlckaaDoor
