/- Newlines by the exact laws' own helpers; a state of newlines and a bool among a law's arguments; the contracts as the laws' texts take them. -/
import Derived.Test.YtlekbmlacinkdabN8
import Derived.Test.YtlekbmlacinkdabL4
namespace Go.Proofs.Ytlekbmlacinkdab
open Go.ChangeShapes Go.WideShapes Go.ChangeAt Go.RowKit
set_option linter.unusedSimpArgs false
set_option linter.unusedVariables false
set_option maxRecDepth 100000

theorem nlM_le (held f : Bool) (s : Int) (xs : List Int) : (niL held f s xs).length ≤ 61 := by
  unfold niL
  split
  · rename_i h
    unfold niOk at h
    rw [Bool.and_eq_true] at h
    have h1 := nlM_len f xs held
    have h2 := bytesB_le h.2
    cases held <;> simp at h1 <;> omega
  · simp
theorem noL_le (xs : List Int) (k : Int) : (noL xs k).length ≤ 120 := by
  unfold noL
  split
  · rename_i h
    rw [isMarkB, Bool.and_eq_true] at h
    have h1 := outL_len xs k
    have h2 := bytesB_le h.1
    omega
  · simp
theorem NewlineIn_x {A : Option Addr} {n c : Nat} {xs : List Int} {held f : Bool} {s : Int} {w : World} {L B : Nat} (h : Ints w L B A n xs) (hB : B ≤ w.heap.size) (hnc : n ≤ c) (hs : okInt s) :
    Calls Try.prog 13 #[.agg #[.bool held, .int .i64 s], .slice A n c, .bool f] w (NlPost (niH held f s xs) (niS held f s xs) (niL held f s xs) w) := NewlineIn_any h hB hnc hs
theorem SNewlineIn_x {A : Option Addr} {n c : Nat} {xs : List Int} {held f : Bool} {s : Int} {w : World} {L B : Nat} (h : Ints w L B A n xs) (hB : B ≤ w.heap.size) (hnc : n ≤ c) (hs : okInt s) :
    Calls Try.prog 10 #[.agg #[.bool held, .int .i64 s], .slice A n c, .bool f] w (NlPost (niH held f s xs) (niS held f s xs) (niL held f s xs) w) := SNewlineIn_any h hB hnc hs
theorem NewlineOut_x {A : Option Addr} {n c : Nat} {xs : List Int} {k : Int} {w : World} {L B : Nat} (h : Ints w L B A n xs) (hB : B ≤ w.heap.size) (hnc : n ≤ c) (hn : n ≤ 1048576) (hk : okInt k) :
    Calls Try.prog 19 #[.slice A n c, .int .i64 k] w (ListPost (noL xs k) w) := NewlineOut_any h hB hnc
theorem SNewlineOut_x {A : Option Addr} {n c : Nat} {xs : List Int} {k : Int} {w : World} {L B : Nat} (h : Ints w L B A n xs) (hB : B ≤ w.heap.size) (hnc : n ≤ c) (hn : n ≤ 1048576) (hk : okInt k) :
    Calls Try.prog 18 #[.slice A n c, .int .i64 k] w (ListPost (noL xs k) w) := SNewlineOut_any h hB
theorem CountEnds_x {A : Option Addr} {n c : Nat} {xs : List Int} {w : World} {L B : Nat} (h : Ints w L B A n xs) (hB : B ≤ w.heap.size) (hnc : n ≤ c) (hn : n ≤ 1048576) :
    Calls Try.prog 26 #[.slice A n c] w (IntB (ceOut xs) w) := CountEnds_any h hB hnc
theorem SCountEnds_x {A : Option Addr} {n c : Nat} {xs : List Int} {w : World} {L B : Nat} (h : Ints w L B A n xs) (hB : B ≤ w.heap.size) (hnc : n ≤ c) (hn : n ≤ 1048576) :
    Calls Try.prog 25 #[.slice A n c] w (IntB (ceOut xs) w) := SCountEnds_any h
theorem EndsIn_x {A : Option Addr} {n c : Nat} {xs : List Int} {w : World} {L B : Nat} (h : Ints w L B A n xs) (hB : B ≤ w.heap.size) (hnc : n ≤ c) (hn : n ≤ 1048576) :
    Calls Try.prog 32 #[.slice A n c] w (IntB (eiOut xs) w) := EndsIn_any h hB hnc
theorem SEndsIn_x {A : Option Addr} {n c : Nat} {xs : List Int} {w : World} {L B : Nat} (h : Ints w L B A n xs) (hB : B ≤ w.heap.size) (hnc : n ≤ c) (hn : n ≤ 1048576) :
    Calls Try.prog 31 #[.slice A n c] w (IntB (eiOut xs) w) := SEndsIn_any h

theorem arg_boolv {H : Type} {enc : TypeId × Value → H} {W : World} {base : Nat} {v : Value} {d : DataW H} {p0 : List MemPlace} (hval : Value.okWide Try.prog W .any base 4 v) (h : DataW.Trod enc Try.prog W 0 (fun _ => true) true 4 v d p0) :
    ∃ b : Bool, v = .bool b := by
  obtain ⟨b, rfl, _, _⟩ := Go.RowKit.open_bool Try.underlying4 hval h
  exact ⟨b, rfl⟩
theorem arg_nl {H : Type} {enc : TypeId × Value → H} {W : World} {base : Nat} {v : Value} {d : DataW H} {p0 : List MemPlace} (hval : Value.okWide Try.prog W .any base 23 v) (h : DataW.Trod enc Try.prog W 0 (fun _ => true) true 23 v d p0) :
    ∃ (b : Bool) (s : Int), v = .agg #[.bool b, .int .i64 s] ∧ okInt s := by
  obtain ⟨v0, v1, y0, y1, n, rfl, _, rfl, h0, h1⟩ := Go.Joins.open_agg2 (P := Try.prog) Try.underlying23 (by kernel_rfl) (by kernel_rfl) hval h
  obtain ⟨b, hb, _⟩ := DataW.trod_bool Try.underlying4 h0
  obtain rfl : v0 = .bool b := by injection hb
  obtain ⟨p, rfl, hp⟩ := arg_int Try.underlying3 h1
  exact ⟨b, p, rfl, hp⟩
set_option maxHeartbeats 1000000 in
theorem toNl_any {b : Bool} {s : Int} {w : World} : Calls Try.prog 11 #[.agg #[.bool b, .int .i64 s]] w fun e w' => e = .returned (.agg #[.bool b, .int .i64 s]) ∧ Below w.heap.size w w' := by
  go_enter Try.func11, Try.ntmps11
  go_wp2
  refine bodyPost_ret (v := .agg #[.bool b, .int .i64 s]) (by simp [results, Try.results11, go_sem]) rfl ⟨rfl, ?_⟩
  go_grown
set_option maxHeartbeats 1000000 in
theorem eqNl_same {b : Bool} {s : Int} {w : World} : Calls Try.prog 14 #[.agg #[.bool b, .int .i64 s], .agg #[.bool b, .int .i64 s]] w (BoolB true w) := by
  go_enter Try.func14, Try.ntmps14
  go_wp2
  go_ret
  exact ⟨rfl, by go_grown⟩
end Go.Proofs.Ytlekbmlacinkdab
