/- impl's firstPoint, SyncAt, isLead's users without an iterator. -/
import Derived.Test.YtlhbodamdjbahaaV1
namespace Go.Proofs.Ytlhbodamdjbahaa
open Go.ChangeShapes Go.WideShapes Go.ChangeAt Go.RowKit
set_option linter.unusedSimpArgs false
set_option linter.unusedVariables false
set_option maxRecDepth 100000

def FptPost (ys : List Int) (w : World) (e : Ending) (w' : World) : Prop := e = .returned (.tuple #[.int .i32 (fpt ys), .int .i64 ((fsz ys : Nat) : Int)]) ∧ Below w.heap.size w w'
theorem low_fpt {b : Int} {r : List Int} (h : b < 128) : fpt (b :: r) = b ∧ fsz (b :: r) = 1 := by
  cases r with
  | nil => simp [fpt, fsz, one, h]
  | cons c s => simp [fpt, fsz, one, h, notail (c := c) h]
theorem high_fpt {b : Int} {r : List Int} (h : ¬ b < 128) (hp : ∀ c, r[0]? = some c → pairB b c = false) : fpt (b :: r) = 3000 + b ∧ fsz (b :: r) = 1 := by
  cases r with
  | nil => simp [fpt, fsz, one, h]
  | cons c s => simp [fpt, fsz, one, h, hp c rfl]
theorem two_fpt {b c : Int} {s : List Int} (hp : pairB b c = true) : fpt (b :: c :: s) = two b c ∧ fsz (b :: c :: s) = 2 := by simp [fpt, fsz, hp]
theorem head_of {ys : List Int} {b : Int} (h : ys[0]? = some b) : ∃ r, ys = b :: r := by
  cases ys with
  | nil => simp at h
  | cons x r => simp at h; subst h; exact ⟨r, rfl⟩

/-- Where the point begins to which the byte with the index i belongs. -/
def syL (xs : List Int) (i : Nat) : Int := if 0 < i ∧ (match xs[i - 1]?, xs[i]? with | some b, some c => pairB b c | _, _ => false) = true then (i : Int) - 1 else (i : Int)
def syOut (xs : List Int) (i : Int) : Int := if bytesB xs && inB i 0 ((xs.length : Int) - 1) then syL xs i.toNat else -1
end Go.Proofs.Ytlhbodamdjbahaa
