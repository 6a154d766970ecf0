/-
  DERIVED. GIVEN WITH THE SEED: THE CARDS: each row of YtdiebkaedjlckaaDoorRows.lean that lists a variable, with what it lists TIED to the program's text (the seventh form; the later family's looks); each row that meets fmt, with fmt's text TOLD by the authors' own Lean function (tested against real Go, not proved from fmt's source: count such statements apart). THE CARD IS WHAT COUNTS. Prove the row's statement (the work); the ties are given (YtdiebkaedjlckaaDoorTie.lean); close each card by the builder's one call (the guide's Derived/Test/ToyasCard.lean, 'card_holds'). Laid BY PROGRAM, IN A SANDBOX (cutbox-door.mjs). By AI agents, Wed Nov 11 2026. No macro, syntax, notation, axiom, sorry.
-/
import Derived.Test.YtdiebkaedjlckaaDoorRows
import GoSem.ClaimSeven
namespace Go.Proofs.YtdiebkaedjlckaaDoor
namespace Rows

/-- THE TIED CARD OF 'laws.FnExactWriteBytes'. -/
def fnExactWriteBytesCard : Claim7 := { stood := { row := fnExactWriteBytesRow, standIns := [], harness := (true, "43dd0fd4dfacdd6b0e61f62051e9860dd59da9dfdc9ea992d5fdac98b49dd618"), looks := true }, kinds := [], alts := [], laidByText := true, laidKinds := [.sentinel, .sentinel, .sentinel], laidTests := true, laidLooks := .later }
def FnExactWriteBytesCardSaid : Prop := Claim7.holds Tryd.pinned (.plain (OpenSpec.ofChange fnExactWriteBytesSpec)) fnExactWriteBytesCard

/-- THE TIED CARD OF 'laws.FnExactWriteLines'. -/
def fnExactWriteLinesCard : Claim7 := { stood := { row := fnExactWriteLinesRow, standIns := [], harness := (true, "43dd0fd4dfacdd6b0e61f62051e9860dd59da9dfdc9ea992d5fdac98b49dd618"), looks := true }, kinds := [], alts := [], laidByText := true, laidKinds := [.sentinel, .sentinel, .sentinel], laidTests := true, laidLooks := .later }
def FnExactWriteLinesCardSaid : Prop := Claim7.holds Tryd.pinned (.plain (OpenSpec.ofChange fnExactWriteLinesSpec)) fnExactWriteLinesCard

/-- THE TIED CARD OF 'laws.FnExactReadBoth'. -/
def fnExactReadBothCard : Claim7 := { stood := { row := fnExactReadBothRow, standIns := [], harness := (true, "43dd0fd4dfacdd6b0e61f62051e9860dd59da9dfdc9ea992d5fdac98b49dd618"), looks := true }, kinds := [], alts := [], laidByText := true, laidKinds := [.sentinel, .sentinel, .sentinel], laidTests := true, laidLooks := .later }
def FnExactReadBothCardSaid : Prop := Claim7.holds Tryd.pinned (.plain (OpenSpec.ofChange fnExactReadBothSpec)) fnExactReadBothCard

/-- THE TIED CARD OF 'laws.FnExactWriteBoth'. -/
def fnExactWriteBothCard : Claim7 := { stood := { row := fnExactWriteBothRow, standIns := [], harness := (true, "43dd0fd4dfacdd6b0e61f62051e9860dd59da9dfdc9ea992d5fdac98b49dd618"), looks := true }, kinds := [], alts := [], laidByText := true, laidKinds := [.sentinel, .sentinel, .sentinel], laidTests := true, laidLooks := .later }
def FnExactWriteBothCardSaid : Prop := Claim7.holds Tryd.pinned (.plain (OpenSpec.ofChange fnExactWriteBothSpec)) fnExactWriteBothCard

/-- THE TIED CARD OF 'laws.FnExactSeekBoth'. -/
def fnExactSeekBothCard : Claim7 := { stood := { row := fnExactSeekBothRow, standIns := [], harness := (true, "43dd0fd4dfacdd6b0e61f62051e9860dd59da9dfdc9ea992d5fdac98b49dd618"), looks := true }, kinds := [], alts := [], laidByText := true, laidKinds := [.sentinel, .sentinel, .sentinel, .sentinel], laidTests := true, laidLooks := .later }
def FnExactSeekBothCardSaid : Prop := Claim7.holds Tryd.pinned (.plain (OpenSpec.ofChange fnExactSeekBothSpec)) fnExactSeekBothCard

/-- THE TIED CARD OF 'laws.FnWriteBytes'. -/
def fnWriteBytesCard : Claim7 := { stood := { row := fnWriteBytesRow, standIns := [], harness := (true, "43dd0fd4dfacdd6b0e61f62051e9860dd59da9dfdc9ea992d5fdac98b49dd618"), looks := true }, kinds := [], alts := [], laidByText := true, laidKinds := [.sentinel, .sentinel, .sentinel], laidTests := true, laidLooks := .later }
def FnWriteBytesCardSaid : Prop := Claim7.holds Tryd.pinned (.plain (OpenSpec.ofChange fnWriteBytesSpec)) fnWriteBytesCard

/-- THE TIED CARD OF 'laws.FnWriteBytesTwice'. -/
def fnWriteBytesTwiceCard : Claim7 := { stood := { row := fnWriteBytesTwiceRow, standIns := [], harness := (true, "43dd0fd4dfacdd6b0e61f62051e9860dd59da9dfdc9ea992d5fdac98b49dd618"), looks := true }, kinds := [], alts := [], laidByText := true, laidKinds := [.sentinel, .sentinel, .sentinel], laidTests := true, laidLooks := .later }
def FnWriteBytesTwiceCardSaid : Prop := Claim7.holds Tryd.pinned (.plain (OpenSpec.ofChange fnWriteBytesTwiceSpec)) fnWriteBytesTwiceCard

/-- THE TIED CARD OF 'laws.FnWriteLines'. -/
def fnWriteLinesCard : Claim7 := { stood := { row := fnWriteLinesRow, standIns := [], harness := (true, "43dd0fd4dfacdd6b0e61f62051e9860dd59da9dfdc9ea992d5fdac98b49dd618"), looks := true }, kinds := [], alts := [], laidByText := true, laidKinds := [.sentinel, .sentinel, .sentinel], laidTests := true, laidLooks := .later }
def FnWriteLinesCardSaid : Prop := Claim7.holds Tryd.pinned (.plain (OpenSpec.ofChange fnWriteLinesSpec)) fnWriteLinesCard

/-- THE TIED CARD OF 'laws.FnRoomOf'. -/
def fnRoomOfCard : Claim7 := { stood := { row := fnRoomOfRow, standIns := [], harness := (true, "43dd0fd4dfacdd6b0e61f62051e9860dd59da9dfdc9ea992d5fdac98b49dd618"), looks := true }, kinds := [], alts := [], laidByText := true, laidKinds := [.sentinel, .sentinel, .sentinel], laidTests := true, laidLooks := .later }
def FnRoomOfCardSaid : Prop := Claim7.holds Tryd.pinned (.plain (OpenSpec.ofChange fnRoomOfSpec)) fnRoomOfCard

/-- THE SECOND FORM's CARD OF 'laws.FnExactWriteBytes'. -/
def fnExactWriteBytesUptoCard : Claim7 := { stood := { row := fnExactWriteBytesUptoRow, standIns := [], harness := (true, "43dd0fd4dfacdd6b0e61f62051e9860dd59da9dfdc9ea992d5fdac98b49dd618"), looks := true }, kinds := [], alts := [], laidByText := true, laidKinds := [.sentinel, .sentinel, .sentinel], laidTests := true, laidLooks := .later }
def FnExactWriteBytesUptoCardSaid : Prop := Claim7.holds Tryd.pinned (.plain (OpenSpec.upto fnExactWriteBytesSpec)) fnExactWriteBytesUptoCard

/-- THE SECOND FORM's CARD OF 'laws.FnExactWriteLines'. -/
def fnExactWriteLinesUptoCard : Claim7 := { stood := { row := fnExactWriteLinesUptoRow, standIns := [], harness := (true, "43dd0fd4dfacdd6b0e61f62051e9860dd59da9dfdc9ea992d5fdac98b49dd618"), looks := true }, kinds := [], alts := [], laidByText := true, laidKinds := [.sentinel, .sentinel, .sentinel], laidTests := true, laidLooks := .later }
def FnExactWriteLinesUptoCardSaid : Prop := Claim7.holds Tryd.pinned (.plain (OpenSpec.upto fnExactWriteLinesSpec)) fnExactWriteLinesUptoCard

/-- THE SECOND FORM's CARD OF 'laws.FnExactReadBoth'. -/
def fnExactReadBothUptoCard : Claim7 := { stood := { row := fnExactReadBothUptoRow, standIns := [], harness := (true, "43dd0fd4dfacdd6b0e61f62051e9860dd59da9dfdc9ea992d5fdac98b49dd618"), looks := true }, kinds := [], alts := [], laidByText := true, laidKinds := [.sentinel, .sentinel, .sentinel], laidTests := true, laidLooks := .later }
def FnExactReadBothUptoCardSaid : Prop := Claim7.holds Tryd.pinned (.plain (OpenSpec.upto fnExactReadBothSpec)) fnExactReadBothUptoCard

/-- THE SECOND FORM's CARD OF 'laws.FnExactWriteBoth'. -/
def fnExactWriteBothUptoCard : Claim7 := { stood := { row := fnExactWriteBothUptoRow, standIns := [], harness := (true, "43dd0fd4dfacdd6b0e61f62051e9860dd59da9dfdc9ea992d5fdac98b49dd618"), looks := true }, kinds := [], alts := [], laidByText := true, laidKinds := [.sentinel, .sentinel, .sentinel], laidTests := true, laidLooks := .later }
def FnExactWriteBothUptoCardSaid : Prop := Claim7.holds Tryd.pinned (.plain (OpenSpec.upto fnExactWriteBothSpec)) fnExactWriteBothUptoCard

/-- THE SECOND FORM's CARD OF 'laws.FnExactSeekBoth'. -/
def fnExactSeekBothUptoCard : Claim7 := { stood := { row := fnExactSeekBothUptoRow, standIns := [], harness := (true, "43dd0fd4dfacdd6b0e61f62051e9860dd59da9dfdc9ea992d5fdac98b49dd618"), looks := true }, kinds := [], alts := [], laidByText := true, laidKinds := [.sentinel, .sentinel, .sentinel, .sentinel], laidTests := true, laidLooks := .later }
def FnExactSeekBothUptoCardSaid : Prop := Claim7.holds Tryd.pinned (.plain (OpenSpec.upto fnExactSeekBothSpec)) fnExactSeekBothUptoCard

/-- THE SECOND FORM's CARD OF 'laws.FnWriteBytes'. -/
def fnWriteBytesUptoCard : Claim7 := { stood := { row := fnWriteBytesUptoRow, standIns := [], harness := (true, "43dd0fd4dfacdd6b0e61f62051e9860dd59da9dfdc9ea992d5fdac98b49dd618"), looks := true }, kinds := [], alts := [], laidByText := true, laidKinds := [.sentinel, .sentinel, .sentinel], laidTests := true, laidLooks := .later }
def FnWriteBytesUptoCardSaid : Prop := Claim7.holds Tryd.pinned (.plain (OpenSpec.upto fnWriteBytesSpec)) fnWriteBytesUptoCard

/-- THE SECOND FORM's CARD OF 'laws.FnWriteBytesTwice'. -/
def fnWriteBytesTwiceUptoCard : Claim7 := { stood := { row := fnWriteBytesTwiceUptoRow, standIns := [], harness := (true, "43dd0fd4dfacdd6b0e61f62051e9860dd59da9dfdc9ea992d5fdac98b49dd618"), looks := true }, kinds := [], alts := [], laidByText := true, laidKinds := [.sentinel, .sentinel, .sentinel], laidTests := true, laidLooks := .later }
def FnWriteBytesTwiceUptoCardSaid : Prop := Claim7.holds Tryd.pinned (.plain (OpenSpec.upto fnWriteBytesTwiceSpec)) fnWriteBytesTwiceUptoCard

/-- THE SECOND FORM's CARD OF 'laws.FnWriteLines'. -/
def fnWriteLinesUptoCard : Claim7 := { stood := { row := fnWriteLinesUptoRow, standIns := [], harness := (true, "43dd0fd4dfacdd6b0e61f62051e9860dd59da9dfdc9ea992d5fdac98b49dd618"), looks := true }, kinds := [], alts := [], laidByText := true, laidKinds := [.sentinel, .sentinel, .sentinel], laidTests := true, laidLooks := .later }
def FnWriteLinesUptoCardSaid : Prop := Claim7.holds Tryd.pinned (.plain (OpenSpec.upto fnWriteLinesSpec)) fnWriteLinesUptoCard

/-- THE SECOND FORM's CARD OF 'laws.FnRoomOf'. -/
def fnRoomOfUptoCard : Claim7 := { stood := { row := fnRoomOfUptoRow, standIns := [], harness := (true, "43dd0fd4dfacdd6b0e61f62051e9860dd59da9dfdc9ea992d5fdac98b49dd618"), looks := true }, kinds := [], alts := [], laidByText := true, laidKinds := [.sentinel, .sentinel, .sentinel], laidTests := true, laidLooks := .later }
def FnRoomOfUptoCardSaid : Prop := Claim7.holds Tryd.pinned (.plain (OpenSpec.upto fnRoomOfSpec)) fnRoomOfUptoCard
end Rows
end Go.Proofs.YtdiebkaedjlckaaDoor
