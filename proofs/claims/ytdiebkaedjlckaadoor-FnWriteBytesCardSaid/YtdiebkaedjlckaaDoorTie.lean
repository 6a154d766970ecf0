/-
  DERIVED. GIVEN WITH THE SEED: THE PROGRAM's TIES (one call each: nine closed facts by the kernel) AND EACH ROW's TIE, after the 31st guide's Derived/Test/Toyas{Tie, Card}.lean. No idea stands in it: it is a product of the set-up. Laid BY PROGRAM, IN A SANDBOX (cutbox-door.mjs). By AI agents, Wed Nov 11 2026. No macro, syntax, notation, axiom, sorry.
-/
import Derived.Test.YtdiebkaedjlckaaDoorRows
import Derived.LaidByTextLater
import Derived.SevenTiedAt
import Derived.LaidSub
import Derived.LaidOnce
namespace Go.Proofs.YtdiebkaedjlckaaDoor
open Go
set_option maxRecDepth 100000
theorem seatTie1 : Tryd.prog.laidByTextLater [("loop.example/streamlayers/impl.errNone", Rows.laid_loop_example_streamlayers_impl_errNone), ("loop.example/streamlayers/impl.errFault", Rows.laid_loop_example_streamlayers_impl_errFault), ("loop.example/streamlayers/impl.errFull", Rows.laid_loop_example_streamlayers_impl_errFull), ("loop.example/streamlayers/impl.errPlace", Rows.laid_loop_example_streamlayers_impl_errPlace)] [.sentinel, .sentinel, .sentinel, .sentinel] true :=
  Program.laidByTextLater_by_one 85 8 2 (by kernel_rfl) (by kernel_rfl) (by kernel_rfl) (by kernel_rfl) (by kernel_rfl) (by kernel_rfl) (fun _ _ => by kernel_rfl)
theorem noOwnUnsafe : Tryd.pinned.checked.prog.headLifts.contains "ownunsafe" = false := by kernel_rfl
theorem tie : Tryd.prog.laidByTextLater [("loop.example/streamlayers/impl.errNone", Rows.laid_loop_example_streamlayers_impl_errNone), ("loop.example/streamlayers/impl.errFault", Rows.laid_loop_example_streamlayers_impl_errFault), ("loop.example/streamlayers/impl.errFull", Rows.laid_loop_example_streamlayers_impl_errFull)] [.sentinel, .sentinel, .sentinel] true :=
  Program.laidByTextLater.sub seatTie1 ["loop.example/streamlayers/impl.errNone", "loop.example/streamlayers/impl.errFault", "loop.example/streamlayers/impl.errFull"] (by kernel_rfl) (by kernel_rfl)
theorem fnExactWriteBytes_row_tie : Rows.fnExactWriteBytesRow.laidByTextAt .later Tryd.pinned [.sentinel, .sentinel, .sentinel] true :=
  OpenClaim.laidByTextAt_later rfl rfl tie noOwnUnsafe
theorem fnExactWriteLines_row_tie : Rows.fnExactWriteLinesRow.laidByTextAt .later Tryd.pinned [.sentinel, .sentinel, .sentinel] true :=
  OpenClaim.laidByTextAt_later rfl rfl tie noOwnUnsafe
theorem fnExactReadBoth_row_tie : Rows.fnExactReadBothRow.laidByTextAt .later Tryd.pinned [.sentinel, .sentinel, .sentinel] true :=
  OpenClaim.laidByTextAt_later rfl rfl tie noOwnUnsafe
theorem fnExactWriteBoth_row_tie : Rows.fnExactWriteBothRow.laidByTextAt .later Tryd.pinned [.sentinel, .sentinel, .sentinel] true :=
  OpenClaim.laidByTextAt_later rfl rfl tie noOwnUnsafe
theorem fnWriteBytes_row_tie : Rows.fnWriteBytesRow.laidByTextAt .later Tryd.pinned [.sentinel, .sentinel, .sentinel] true :=
  OpenClaim.laidByTextAt_later rfl rfl tie noOwnUnsafe
theorem fnWriteBytesTwice_row_tie : Rows.fnWriteBytesTwiceRow.laidByTextAt .later Tryd.pinned [.sentinel, .sentinel, .sentinel] true :=
  OpenClaim.laidByTextAt_later rfl rfl tie noOwnUnsafe
theorem fnWriteLines_row_tie : Rows.fnWriteLinesRow.laidByTextAt .later Tryd.pinned [.sentinel, .sentinel, .sentinel] true :=
  OpenClaim.laidByTextAt_later rfl rfl tie noOwnUnsafe
theorem fnRoomOf_row_tie : Rows.fnRoomOfRow.laidByTextAt .later Tryd.pinned [.sentinel, .sentinel, .sentinel] true :=
  OpenClaim.laidByTextAt_later rfl rfl tie noOwnUnsafe
theorem tie2 : Tryd.prog.laidByTextLater [("loop.example/streamlayers/impl.errNone", Rows.laid_loop_example_streamlayers_impl_errNone), ("loop.example/streamlayers/impl.errFault", Rows.laid_loop_example_streamlayers_impl_errFault), ("loop.example/streamlayers/impl.errFull", Rows.laid_loop_example_streamlayers_impl_errFull), ("loop.example/streamlayers/impl.errPlace", Rows.laid_loop_example_streamlayers_impl_errPlace)] [.sentinel, .sentinel, .sentinel, .sentinel] true :=
  Program.laidByTextLater.sub seatTie1 ["loop.example/streamlayers/impl.errNone", "loop.example/streamlayers/impl.errFault", "loop.example/streamlayers/impl.errFull", "loop.example/streamlayers/impl.errPlace"] (by kernel_rfl) (by kernel_rfl)
theorem fnExactSeekBoth_row_tie : Rows.fnExactSeekBothRow.laidByTextAt .later Tryd.pinned [.sentinel, .sentinel, .sentinel, .sentinel] true :=
  OpenClaim.laidByTextAt_later rfl rfl tie2 noOwnUnsafe
theorem fnExactWriteBytesUpto_row_tie : Rows.fnExactWriteBytesUptoRow.laidByTextAt .later Tryd.pinned [.sentinel, .sentinel, .sentinel] true :=
  OpenClaim.laidByTextAt_later rfl rfl tie noOwnUnsafe
theorem fnExactWriteLinesUpto_row_tie : Rows.fnExactWriteLinesUptoRow.laidByTextAt .later Tryd.pinned [.sentinel, .sentinel, .sentinel] true :=
  OpenClaim.laidByTextAt_later rfl rfl tie noOwnUnsafe
theorem fnExactReadBothUpto_row_tie : Rows.fnExactReadBothUptoRow.laidByTextAt .later Tryd.pinned [.sentinel, .sentinel, .sentinel] true :=
  OpenClaim.laidByTextAt_later rfl rfl tie noOwnUnsafe
theorem fnExactWriteBothUpto_row_tie : Rows.fnExactWriteBothUptoRow.laidByTextAt .later Tryd.pinned [.sentinel, .sentinel, .sentinel] true :=
  OpenClaim.laidByTextAt_later rfl rfl tie noOwnUnsafe
theorem fnExactSeekBothUpto_row_tie : Rows.fnExactSeekBothUptoRow.laidByTextAt .later Tryd.pinned [.sentinel, .sentinel, .sentinel, .sentinel] true :=
  OpenClaim.laidByTextAt_later rfl rfl tie2 noOwnUnsafe
theorem fnWriteBytesUpto_row_tie : Rows.fnWriteBytesUptoRow.laidByTextAt .later Tryd.pinned [.sentinel, .sentinel, .sentinel] true :=
  OpenClaim.laidByTextAt_later rfl rfl tie noOwnUnsafe
theorem fnWriteBytesTwiceUpto_row_tie : Rows.fnWriteBytesTwiceUptoRow.laidByTextAt .later Tryd.pinned [.sentinel, .sentinel, .sentinel] true :=
  OpenClaim.laidByTextAt_later rfl rfl tie noOwnUnsafe
theorem fnWriteLinesUpto_row_tie : Rows.fnWriteLinesUptoRow.laidByTextAt .later Tryd.pinned [.sentinel, .sentinel, .sentinel] true :=
  OpenClaim.laidByTextAt_later rfl rfl tie noOwnUnsafe
theorem fnRoomOfUpto_row_tie : Rows.fnRoomOfUptoRow.laidByTextAt .later Tryd.pinned [.sentinel, .sentinel, .sentinel] true :=
  OpenClaim.laidByTextAt_later rfl rfl tie noOwnUnsafe
end Go.Proofs.YtdiebkaedjlckaaDoor
