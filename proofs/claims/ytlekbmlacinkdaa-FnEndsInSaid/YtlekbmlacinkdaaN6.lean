/- The model's functions of newlines. -/
import Derived.Test.YtlekbmlacinkdaaN5
import Derived.Test.YtlekbmlacinkdaaS1b
namespace Go.Proofs.Ytlekbmlacinkdaa
open Go.ChangeShapes Go.WideShapes Go.ChangeAt Go.RowKit
set_option linter.unusedSimpArgs false
set_option linter.unusedVariables false
set_option maxRecDepth 100000

theorem Ints.cell_at {w : World} {lo hi n b o k : Nat} {xs : List Int} {x : Int} (h : Ints w lo hi (some ⟨b, o, none⟩) n xs) (hx : xs[k]? = some x) : w.cell? ⟨b, o + k, none⟩ = some (.int .i64 x) := by
  have hn : 0 < n := by have := h.1; have := (List.getElem?_eq_some_iff.1 hx).1; omega
  obtain ⟨b', o', e, _, _, hc⟩ := h.2.2.2 hn
  injection e with e
  injection e with e1 e2 _
  subst e1 e2
  exact (hc k x hx).1
theorem nl_drop {f hd : Bool} {s : Int} {xs : List Int} {k : Nat} {x : Int} (h : xs[k]? = some x) :
    nlM f hd (xs.drop k) = (if hd && x != 10 then [10] else []) ++ ((if x == 13 then [] else [x]) ++ nlM f (x == 13) (xs.drop (k + 1))) ∧ nlH hd (xs.drop k) = nlH (x == 13) (xs.drop (k + 1)) ∧ nlS f hd s (xs.drop k) = nlS f (x == 13) (seen1 hd x s) (xs.drop (k + 1)) := by
  obtain ⟨hl, rfl⟩ := List.getElem?_eq_some_iff.1 h
  rw [List.drop_eq_getElem_cons hl]
  exact ⟨rfl, rfl, rfl⟩
/-- What the model's newlines gives. -/
def SNlPost (H : Bool) (R : List Int) (w : World) (e : Ending) (w' : World) : Prop :=
  ∃ A n c, e = .returned (.tuple #[.slice A n c, .bool H]) ∧ n ≤ c ∧ Below w.heap.size w w' ∧ Ints w' w.heap.size w'.heap.size A n R
/-- What is made, and what will be. -/
def SNl (f hd : Bool) (zs rest R : List Int) (H : Bool) : Prop := zs ++ nlM f hd rest = R ∧ nlH hd rest = H
theorem SNl.step {f hd : Bool} {zs xs R : List Int} {H : Bool} {k : Nat} {x : Int} (h : SNl f hd zs (xs.drop k) R H) (hx : xs[k]? = some x) : SNl f (x == 13) (zs ++ (if hd && x != 10 then [10] else []) ++ (if x == 13 then [] else [x])) (xs.drop (k + 1)) R H := by
  obtain ⟨a, b, _⟩ := nl_drop (f := f) (hd := hd) (s := 0) hx
  exact ⟨by rw [← h.1, a]; simp, by rw [← h.2, b]⟩
set_option maxHeartbeats 8000000 in
theorem newlines_any {A : Option Addr} {n c : Nat} {xs : List Int} {held f : Bool} {w : World} {L B : Nat} (h : Ints w L B A n xs) (hB : B ≤ w.heap.size) (hn : n ≤ 1000) :
    Calls Try.prog 46 #[.slice A n c, .bool held, .bool f] w (SNlPost (nlH held xs && !f) (nlM f held xs) w) := by
  obtain ⟨R, hR⟩ : ∃ R, nlM f held xs = R := ⟨_, rfl⟩
  obtain ⟨H, hH⟩ : ∃ H, nlH held xs = H := ⟨_, rfl⟩
  rw [hR, hH]
  have ST : Hid (SNl f held [] (xs.drop 0) R H) := ⟨by rw [← hR]; rfl, by rw [← hH]; rfl⟩
  clear hR hH
  have HL := Lib.hid h.len
  have OKX := Lib.hid h.ok
  have HI := Lib.hid (h.alloc hB (.cells #[] 3))
  have HO0 := Lib.hid (OwnI.made w (Nat.le_refl w.heap.size))
  have HB0 : Hid (Below w.heap.size w (w.alloc (.cells #[] 3))) := (by go_grown : Below w.heap.size w _)
  have s0 : w.heap.size + 1 ≤ (w.alloc (.cells #[] 3)).heap.size := by simp
  clear h
  go_enter Try.func46, Try.ntmps46
  go_upto_region 2 with (fail)
  generalize w.alloc (.cells #[] 3) = w0 at *
  go_wp2
  go_loopw [1, 8, 9] (fun hv o i wr => ∃ (j : Nat) (hd : Bool) (A2 : Option Addr) (k2 c2 : Nat) (zs : List Int), j ≤ n ∧ hv = .bool hd ∧ i = .int .i64 j ∧ o = .slice A2 k2 c2 ∧ k2 ≤ 2 * j ∧ w.heap.size ≤ wr.heap.size ∧ Hid (OwnI wr w.heap.size (.slice A2 k2 c2) k2 zs) ∧ Hid (∀ y ∈ zs, okInt y) ∧ Hid (Ints wr L B A n xs) ∧ Hid (Below w.heap.size w wr) ∧ Hid (SNl f hd zs (xs.drop j) R H)) (fun _ _ i _ => n - (intOf i).toNat)
  case atStart => exact ⟨0, held, _, 0, 0, [], Nat.zero_le _, rfl, rfl, rfl, by omega, by omega, HO0, (fun y hy => by cases hy), HI, HB0, ST⟩
  case round =>
    clear HO0 HI HB0 s0 ST
    obtain ⟨j, hd, A2, k2, c2, zs, hj, rfl, rfl, rfl, hk2, hsz, HO, OK, HI, HB, ST⟩ := hrel
    by_cases hlt : j < n
    · obtain ⟨b, o, x, rfl, _, hc, hx⟩ := HI.out.at_ hlt
      have ST2 := Lib.hid (ST.out.step hx.out)
      have hxo := OKX.out x (List.mem_of_getElem? hx.out)
      clear ST
      cases hd
      · by_cases h13 : x = 13
        · subst h13
          have e13 : ((13 : Int) == 13) = true := rfl
          have e10 : ((13 : Int) == 10) = false := rfl
          go_wp2
          go_roundw
          case rel => exact ⟨j + 1, true, A2, _, c2, zs, by omega, rfl, by go_num, rfl, by omega, by omega, HO, OK, HI, HB, by show SNl _ _ _ _ _ _; simpa [e10, e13] using ST2.out⟩
          case measure => simp [intOf]; omega
        · have e13 : (x == 13) = false := by simp [h13]
          have e10 : (false && x != 10) = false := rfl
          go_wp2_with (at_builtin; refine wpList_append_ints rfl (.tmp 35) (.tmp 40) rfl w.heap.size (.slice A2 (k2) c2) (k2) (zs) rfl (HO.out.alloc _) (some ⟨wr.heap.size, 0, none⟩) 1 1 [x] rfl (lit1 wr (x) hxo) (by omega) (by simp; omega) ?_)
          intro vn w3 hon hgn
          have hon : OwnI w3 w.heap.size vn (k2 + 1) (zs ++ [x]) := (by first | exact hon | simpa using hon)
          have en := below_grown (HO.out.alloc (.cells #[.int .i64 x] 3)) hgn (by simp; omega)
          have snw3 : wr.heap.size + 1 ≤ w3.heap.size := by have := en.size; simp at this; omega
          have OKn : Hid (∀ y ∈ zs ++ [x], okInt y) := fun y hy => by rcases List.mem_append.1 hy with h | h; (exact OK.out y h); (simp at h; subst h; exact hxo)
          obtain ⟨A3, c3, rfl, _, _⟩ := hon.ints OKn.out
          replace HO := Lib.hid hon
          replace OK := OKn
          replace HI := Lib.hid ((HI.out.alloc (by omega) (.cells #[.int .i64 x] 3)).below en (by omega))
          replace HB := Lib.hid (below_step en (HB.out.alloc (by omega) (.cells #[.int .i64 x] 3)) (by omega))
          clear hon hgn en OKn
          go_wp2
          go_roundw
          case rel => exact ⟨j + 1, false, A3, _, c3, zs ++ [x], by omega, rfl, by go_num, rfl, by omega, by omega, HO, OK, HI, HB, by show SNl _ _ _ _ _ _; simpa [e10, e13] using ST2.out⟩
          case measure => simp [intOf]; omega
      · by_cases h10 : x = 10
        · subst h10
          have e10 : ((10 : Int) == 10) = true := rfl
          have e13 : ((10 : Int) == 13) = false := rfl
          go_wp2_with (at_builtin; refine wpList_append_ints rfl (.tmp 35) (.tmp 40) rfl w.heap.size (.slice A2 (k2) c2) (k2) (zs) rfl (HO.out.alloc _) (some ⟨wr.heap.size, 0, none⟩) 1 1 [10] rfl (lit1 wr (10) ok10) (by omega) (by simp; omega) ?_)
          intro vn w3 hon hgn
          have hon : OwnI w3 w.heap.size vn (k2 + 1) (zs ++ [10]) := (by first | exact hon | simpa using hon)
          have en := below_grown (HO.out.alloc (.cells #[.int .i64 10] 3)) hgn (by simp; omega)
          have snw3 : wr.heap.size + 1 ≤ w3.heap.size := by have := en.size; simp at this; omega
          have OKn : Hid (∀ y ∈ zs ++ [10], okInt y) := fun y hy => by rcases List.mem_append.1 hy with h | h; (exact OK.out y h); (simp at h; subst h; exact ok10)
          obtain ⟨A3, c3, rfl, _, _⟩ := hon.ints OKn.out
          replace HO := Lib.hid hon
          replace OK := OKn
          replace HI := Lib.hid ((HI.out.alloc (by omega) (.cells #[.int .i64 10] 3)).below en (by omega))
          replace HB := Lib.hid (below_step en (HB.out.alloc (by omega) (.cells #[.int .i64 10] 3)) (by omega))
          clear hon hgn en OKn
          go_wp2
          go_roundw
          case rel => exact ⟨j + 1, false, A3, _, c3, zs ++ [10], by omega, rfl, by go_num, rfl, by omega, by omega, HO, OK, HI, HB, by show SNl _ _ _ _ _ _; simpa [e10, e13] using ST2.out⟩
          case measure => simp [intOf]; omega
        · have e10 : (x != 10) = true := by simp [h10]
          by_cases h13 : x = 13
          · subst h13
            have e13 : ((13 : Int) == 13) = true := rfl
            go_wp2_with (at_builtin; refine wpList_append_ints rfl (.tmp 25) (.tmp 26) rfl w.heap.size (.slice A2 (k2) c2) (k2) (zs) rfl (HO.out.alloc _) (some ⟨wr.heap.size, 0, none⟩) 1 1 [10] rfl (lit1 wr (10) ok10) (by omega) (by simp; omega) ?_)
            intro vn w3 hon hgn
            have hon : OwnI w3 w.heap.size vn (k2 + 1) (zs ++ [10]) := (by first | exact hon | simpa using hon)
            have en := below_grown (HO.out.alloc (.cells #[.int .i64 10] 3)) hgn (by simp; omega)
            have snw3 : wr.heap.size + 1 ≤ w3.heap.size := by have := en.size; simp at this; omega
            have OKn : Hid (∀ y ∈ zs ++ [10], okInt y) := fun y hy => by rcases List.mem_append.1 hy with h | h; (exact OK.out y h); (simp at h; subst h; exact ok10)
            obtain ⟨A3, c3, rfl, _, _⟩ := hon.ints OKn.out
            replace HO := Lib.hid hon
            replace OK := OKn
            replace HI := Lib.hid ((HI.out.alloc (by omega) (.cells #[.int .i64 10] 3)).below en (by omega))
            replace HB := Lib.hid (below_step en (HB.out.alloc (by omega) (.cells #[.int .i64 10] 3)) (by omega))
            clear hon hgn en OKn
            have hc := HI.out.cell_at hx.out
            go_wp2
            go_roundw
            case rel => exact ⟨j + 1, true, A3, _, c3, zs ++ [10], by omega, rfl, by go_num, rfl, by omega, by omega, HO, OK, HI, HB, by show SNl _ _ _ _ _ _; simpa [e10, e13] using ST2.out⟩
            case measure => simp [intOf]; omega
          · have e13 : (x == 13) = false := by simp [h13]
            go_wp2_with (at_builtin; refine wpList_append_ints rfl (.tmp 25) (.tmp 26) rfl w.heap.size (.slice A2 (k2) c2) (k2) (zs) rfl (HO.out.alloc _) (some ⟨wr.heap.size, 0, none⟩) 1 1 [10] rfl (lit1 wr (10) ok10) (by omega) (by simp; omega) ?_)
            intro vn w3 hon hgn
            have hon : OwnI w3 w.heap.size vn (k2 + 1) (zs ++ [10]) := (by first | exact hon | simpa using hon)
            have en := below_grown (HO.out.alloc (.cells #[.int .i64 10] 3)) hgn (by simp; omega)
            have snw3 : wr.heap.size + 1 ≤ w3.heap.size := by have := en.size; simp at this; omega
            have OKn : Hid (∀ y ∈ zs ++ [10], okInt y) := fun y hy => by rcases List.mem_append.1 hy with h | h; (exact OK.out y h); (simp at h; subst h; exact ok10)
            obtain ⟨A3, c3, rfl, _, _⟩ := hon.ints OKn.out
            replace HO := Lib.hid hon
            replace OK := OKn
            replace HI := Lib.hid ((HI.out.alloc (by omega) (.cells #[.int .i64 10] 3)).below en (by omega))
            replace HB := Lib.hid (below_step en (HB.out.alloc (by omega) (.cells #[.int .i64 10] 3)) (by omega))
            clear hon hgn en OKn
            have hc := HI.out.cell_at hx.out
            go_wp2_with (at_builtin; refine wpList_append_ints rfl (.tmp 35) (.tmp 40) rfl w.heap.size (.slice A3 (k2 + 1) c3) (k2 + 1) (zs ++ [10]) rfl (HO.out.alloc _) (some ⟨w3.heap.size, 0, none⟩) 1 1 [x] rfl (lit1 w3 (x) hxo) (by omega) (by simp; omega) ?_)
            intro vn w4 hon hgn
            have hon : OwnI w4 w.heap.size vn (k2 + 1 + 1) (zs ++ [10] ++ [x]) := (by first | exact hon | simpa using hon)
            have en := below_grown (HO.out.alloc (.cells #[.int .i64 x] 3)) hgn (by simp; omega)
            have snw4 : w3.heap.size + 1 ≤ w4.heap.size := by have := en.size; simp at this; omega
            have OKn : Hid (∀ y ∈ zs ++ [10] ++ [x], okInt y) := fun y hy => by rcases List.mem_append.1 hy with h | h; (exact OK.out y h); (simp at h; subst h; exact hxo)
            obtain ⟨A4, c4, rfl, _, _⟩ := hon.ints OKn.out
            replace HO := Lib.hid hon
            replace OK := OKn
            replace HI := Lib.hid ((HI.out.alloc (by omega) (.cells #[.int .i64 x] 3)).below en (by omega))
            replace HB := Lib.hid (below_step en (HB.out.alloc (by omega) (.cells #[.int .i64 x] 3)) (by omega))
            clear hon hgn en OKn
            go_wp2
            go_roundw
            case rel => exact ⟨j + 1, false, A4, _, c4, zs ++ [10] ++ [x], by omega, rfl, by go_num, rfl, by omega, by omega, HO, OK, HI, HB, by show SNl _ _ _ _ _ _; simpa [e10, e13] using ST2.out⟩
            case measure => simp [intOf]; omega
    · obtain rfl : n = j := by omega
      have hst := ST.out
      rw [List.drop_of_length_le (by have := HL.out; omega)] at hst
      obtain ⟨e1, rfl⟩ := hst
      cases hd
      · have e1 : zs = R := by rw [← e1]; simp [nlM]
        subst e1
        clear ST
        go_wp2
        go_ret2
        obtain ⟨A3, c3, e, hc3, hI⟩ := HO.out.ints OK.out
        injection e with e1 e2 e3
        subst e1 e3
        exact ⟨_, _, _, by simp [nlH], hc3, HB.out, hI⟩
      · cases f
        · have e1 : zs = R := by rw [← e1]; simp [nlM]
          subst e1
          clear ST
          go_wp2
          go_ret2
          obtain ⟨A3, c3, e, hc3, hI⟩ := HO.out.ints OK.out
          injection e with e1 e2 e3
          subst e1 e3
          exact ⟨_, _, _, by simp [nlH], hc3, HB.out, hI⟩
        · have e1 : zs ++ [10] = R := by rw [← e1]; simp [nlM]
          subst e1
          clear ST
          go_wp2_with (at_builtin; refine wpList_append_ints rfl (.tmp 46) (.tmp 47) rfl w.heap.size (.slice A2 (k2) c2) (k2) (zs) rfl (HO.out.alloc _) (some ⟨wr.heap.size, 0, none⟩) 1 1 [10] rfl (lit1 wr (10) ok10) (by omega) (by simp; omega) ?_)
          intro vn w3 hon hgn
          have hon : OwnI w3 w.heap.size vn (k2 + 1) (zs ++ [10]) := (by first | exact hon | simpa using hon)
          have en := below_grown (HO.out.alloc (.cells #[.int .i64 10] 3)) hgn (by simp; omega)
          have snw3 : wr.heap.size + 1 ≤ w3.heap.size := by have := en.size; simp at this; omega
          have OKn : Hid (∀ y ∈ zs ++ [10], okInt y) := fun y hy => by rcases List.mem_append.1 hy with h | h; (exact OK.out y h); (simp at h; subst h; exact ok10)
          obtain ⟨A3, c3, rfl, _, _⟩ := hon.ints OKn.out
          replace HO := Lib.hid hon
          replace OK := OKn
          replace HI := Lib.hid ((HI.out.alloc (by omega) (.cells #[.int .i64 10] 3)).below en (by omega))
          replace HB := Lib.hid (below_step en (HB.out.alloc (by omega) (.cells #[.int .i64 10] 3)) (by omega))
          clear hon hgn en OKn
          go_wp2
          go_ret2
          obtain ⟨A4, c4, e, hc4, hI⟩ := HO.out.ints OK.out
          injection e with e1 e2 e3
          subst e1 e3
          exact ⟨_, _, _, by simp [nlH], hc4, HB.out, hI⟩
end Go.Proofs.Ytlekbmlacinkdaa
