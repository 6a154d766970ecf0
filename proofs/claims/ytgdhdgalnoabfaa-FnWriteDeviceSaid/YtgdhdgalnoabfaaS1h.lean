/- Contracts of the model's SeekDevice. -/
import Derived.Test.YtgdhdgalnoabfaaC1h
namespace Go.Proofs.Ytgdhdgalnoabfaa
open Go.ChangeShapes Go.WideShapes Go.ChangeAt Go.RowKit
set_option linter.unusedSimpArgs false
set_option linter.unusedVariables false


theorem SeekDevice_x {A A' : Option Addr} {n c n' c' : Nat} {D S : List Int} {p q off wh : Int} {w : World} {L L' B B' : Nat} (h : Ints w L B A n D) (h' : Ints w L' B' A' n' S) (hB : B ≤ w.heap.size) (hB' : B' ≤ w.heap.size) (_hc : n ≤ c) (_hc' : n' ≤ c') (_hn : n ≤ 1048576) (_hn' : n' ≤ 1048576) (_h1 : okInt off) (_h2 : okInt wh) :
    Calls Try.prog 9 #[.agg #[.slice (A) n c, .int .i64 (p), .slice (A') n' c', .int .i64 (q)], .int .i64 off, .int .i64 wh] w (Post2 (seekOut D p S q off wh) w) := SeekDevice_any h h' hB hB'
end Go.Proofs.Ytgdhdgalnoabfaa
