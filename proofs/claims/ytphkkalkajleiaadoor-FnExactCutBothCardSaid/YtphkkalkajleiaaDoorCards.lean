/-
  DERIVED. GIVEN WITH THE SEED: THE CARDS: each row of YtphkkalkajleiaaDoorRows.lean that lists a variable, with what it lists TIED to the program's text (the seventh form; the later family's looks); each row that meets fmt, with fmt's text TOLD by the authors' own Lean function (tested against real Go, not proved from fmt's source: count such statements apart). THE CARD IS WHAT COUNTS. Prove the row's statement (the work); the ties are given (YtphkkalkajleiaaDoorTie.lean); close each card by the builder's one call (the guide's Derived/Test/ToyasCard.lean, 'card_holds'). Laid BY PROGRAM, IN A SANDBOX (cutbox-door.mjs). By AI agents, Wed Nov 11 2026. No macro, syntax, notation, axiom, sorry.
-/
import Derived.Test.YtphkkalkajleiaaDoorRows
import GoSem.ClaimSeven
namespace Go.Proofs.YtphkkalkajleiaaDoor
namespace Rows

/-- THE TIED CARD OF 'laws.FnExactFlushWriter'. -/
def fnExactFlushWriterCard : Claim7 := { stood := { row := fnExactFlushWriterRow, standIns := [], harness := (true, "27f02ecaf56af079e68bb89d4c72f04ee29a6f7821e30fa01852ecf325199809"), looks := true }, kinds := [], alts := [], laidByText := true, laidKinds := [.sentinel, .sentinel, .sentinel], laidTests := true, laidLooks := .later }
def FnExactFlushWriterCardSaid : Prop := Claim7.holds Tryd.pinned (.plain (OpenSpec.ofChange fnExactFlushWriterSpec)) fnExactFlushWriterCard

/-- THE TIED CARD OF 'laws.FnExactWriteBytes'. -/
def fnExactWriteBytesCard : Claim7 := { stood := { row := fnExactWriteBytesRow, standIns := [], harness := (true, "27f02ecaf56af079e68bb89d4c72f04ee29a6f7821e30fa01852ecf325199809"), looks := true }, kinds := [], alts := [], laidByText := true, laidKinds := [.sentinel, .sentinel, .sentinel], laidTests := true, laidLooks := .later }
def FnExactWriteBytesCardSaid : Prop := Claim7.holds Tryd.pinned (.plain (OpenSpec.ofChange fnExactWriteBytesSpec)) fnExactWriteBytesCard

/-- THE TIED CARD OF 'laws.FnExactSeekWriter'. -/
def fnExactSeekWriterCard : Claim7 := { stood := { row := fnExactSeekWriterRow, standIns := [], harness := (true, "27f02ecaf56af079e68bb89d4c72f04ee29a6f7821e30fa01852ecf325199809"), looks := true }, kinds := [], alts := [], laidByText := true, laidKinds := [.sentinel, .sentinel, .sentinel, .sentinel], laidTests := true, laidLooks := .later }
def FnExactSeekWriterCardSaid : Prop := Claim7.holds Tryd.pinned (.plain (OpenSpec.ofChange fnExactSeekWriterSpec)) fnExactSeekWriterCard

/-- THE TIED CARD OF 'laws.FnExactCutWriter'. -/
def fnExactCutWriterCard : Claim7 := { stood := { row := fnExactCutWriterRow, standIns := [], harness := (true, "27f02ecaf56af079e68bb89d4c72f04ee29a6f7821e30fa01852ecf325199809"), looks := true }, kinds := [], alts := [], laidByText := true, laidKinds := [.sentinel, .sentinel, .sentinel], laidTests := true, laidLooks := .later }
def FnExactCutWriterCardSaid : Prop := Claim7.holds Tryd.pinned (.plain (OpenSpec.ofChange fnExactCutWriterSpec)) fnExactCutWriterCard

/-- THE TIED CARD OF 'laws.FnExactWriteLines'. -/
def fnExactWriteLinesCard : Claim7 := { stood := { row := fnExactWriteLinesRow, standIns := [], harness := (true, "27f02ecaf56af079e68bb89d4c72f04ee29a6f7821e30fa01852ecf325199809"), looks := true }, kinds := [], alts := [], laidByText := true, laidKinds := [.sentinel, .sentinel, .sentinel], laidTests := true, laidLooks := .later }
def FnExactWriteLinesCardSaid : Prop := Claim7.holds Tryd.pinned (.plain (OpenSpec.ofChange fnExactWriteLinesSpec)) fnExactWriteLinesCard

/-- THE TIED CARD OF 'laws.FnExactFlushBoth'. -/
def fnExactFlushBothCard : Claim7 := { stood := { row := fnExactFlushBothRow, standIns := [], harness := (true, "27f02ecaf56af079e68bb89d4c72f04ee29a6f7821e30fa01852ecf325199809"), looks := true }, kinds := [], alts := [], laidByText := true, laidKinds := [.sentinel, .sentinel, .sentinel], laidTests := true, laidLooks := .later }
def FnExactFlushBothCardSaid : Prop := Claim7.holds Tryd.pinned (.plain (OpenSpec.ofChange fnExactFlushBothSpec)) fnExactFlushBothCard

/-- THE TIED CARD OF 'laws.FnExactReadBoth'. -/
def fnExactReadBothCard : Claim7 := { stood := { row := fnExactReadBothRow, standIns := [], harness := (true, "27f02ecaf56af079e68bb89d4c72f04ee29a6f7821e30fa01852ecf325199809"), looks := true }, kinds := [], alts := [], laidByText := true, laidKinds := [.sentinel, .sentinel, .sentinel], laidTests := true, laidLooks := .later }
def FnExactReadBothCardSaid : Prop := Claim7.holds Tryd.pinned (.plain (OpenSpec.ofChange fnExactReadBothSpec)) fnExactReadBothCard

/-- THE TIED CARD OF 'laws.FnExactWriteBoth'. -/
def fnExactWriteBothCard : Claim7 := { stood := { row := fnExactWriteBothRow, standIns := [], harness := (true, "27f02ecaf56af079e68bb89d4c72f04ee29a6f7821e30fa01852ecf325199809"), looks := true }, kinds := [], alts := [], laidByText := true, laidKinds := [.sentinel, .sentinel, .sentinel], laidTests := true, laidLooks := .later }
def FnExactWriteBothCardSaid : Prop := Claim7.holds Tryd.pinned (.plain (OpenSpec.ofChange fnExactWriteBothSpec)) fnExactWriteBothCard

/-- THE TIED CARD OF 'laws.FnExactSeekBoth'. -/
def fnExactSeekBothCard : Claim7 := { stood := { row := fnExactSeekBothRow, standIns := [], harness := (true, "27f02ecaf56af079e68bb89d4c72f04ee29a6f7821e30fa01852ecf325199809"), looks := true }, kinds := [], alts := [], laidByText := true, laidKinds := [.sentinel, .sentinel, .sentinel, .sentinel], laidTests := true, laidLooks := .later }
def FnExactSeekBothCardSaid : Prop := Claim7.holds Tryd.pinned (.plain (OpenSpec.ofChange fnExactSeekBothSpec)) fnExactSeekBothCard

/-- THE TIED CARD OF 'laws.FnExactCutBoth'. -/
def fnExactCutBothCard : Claim7 := { stood := { row := fnExactCutBothRow, standIns := [], harness := (true, "27f02ecaf56af079e68bb89d4c72f04ee29a6f7821e30fa01852ecf325199809"), looks := true }, kinds := [], alts := [], laidByText := true, laidKinds := [.sentinel, .sentinel, .sentinel], laidTests := true, laidLooks := .later }
def FnExactCutBothCardSaid : Prop := Claim7.holds Tryd.pinned (.plain (OpenSpec.ofChange fnExactCutBothSpec)) fnExactCutBothCard

/-- THE SECOND FORM's CARD OF 'laws.FnExactFlushWriter'. -/
def fnExactFlushWriterUptoCard : Claim7 := { stood := { row := fnExactFlushWriterUptoRow, standIns := [], harness := (true, "27f02ecaf56af079e68bb89d4c72f04ee29a6f7821e30fa01852ecf325199809"), looks := true }, kinds := [], alts := [], laidByText := true, laidKinds := [.sentinel, .sentinel, .sentinel], laidTests := true, laidLooks := .later }
def FnExactFlushWriterUptoCardSaid : Prop := Claim7.holds Tryd.pinned (.plain (OpenSpec.upto fnExactFlushWriterSpec)) fnExactFlushWriterUptoCard

/-- THE SECOND FORM's CARD OF 'laws.FnExactWriteBytes'. -/
def fnExactWriteBytesUptoCard : Claim7 := { stood := { row := fnExactWriteBytesUptoRow, standIns := [], harness := (true, "27f02ecaf56af079e68bb89d4c72f04ee29a6f7821e30fa01852ecf325199809"), looks := true }, kinds := [], alts := [], laidByText := true, laidKinds := [.sentinel, .sentinel, .sentinel], laidTests := true, laidLooks := .later }
def FnExactWriteBytesUptoCardSaid : Prop := Claim7.holds Tryd.pinned (.plain (OpenSpec.upto fnExactWriteBytesSpec)) fnExactWriteBytesUptoCard

/-- THE SECOND FORM's CARD OF 'laws.FnExactSeekWriter'. -/
def fnExactSeekWriterUptoCard : Claim7 := { stood := { row := fnExactSeekWriterUptoRow, standIns := [], harness := (true, "27f02ecaf56af079e68bb89d4c72f04ee29a6f7821e30fa01852ecf325199809"), looks := true }, kinds := [], alts := [], laidByText := true, laidKinds := [.sentinel, .sentinel, .sentinel, .sentinel], laidTests := true, laidLooks := .later }
def FnExactSeekWriterUptoCardSaid : Prop := Claim7.holds Tryd.pinned (.plain (OpenSpec.upto fnExactSeekWriterSpec)) fnExactSeekWriterUptoCard

/-- THE SECOND FORM's CARD OF 'laws.FnExactCutWriter'. -/
def fnExactCutWriterUptoCard : Claim7 := { stood := { row := fnExactCutWriterUptoRow, standIns := [], harness := (true, "27f02ecaf56af079e68bb89d4c72f04ee29a6f7821e30fa01852ecf325199809"), looks := true }, kinds := [], alts := [], laidByText := true, laidKinds := [.sentinel, .sentinel, .sentinel], laidTests := true, laidLooks := .later }
def FnExactCutWriterUptoCardSaid : Prop := Claim7.holds Tryd.pinned (.plain (OpenSpec.upto fnExactCutWriterSpec)) fnExactCutWriterUptoCard

/-- THE SECOND FORM's CARD OF 'laws.FnExactWriteLines'. -/
def fnExactWriteLinesUptoCard : Claim7 := { stood := { row := fnExactWriteLinesUptoRow, standIns := [], harness := (true, "27f02ecaf56af079e68bb89d4c72f04ee29a6f7821e30fa01852ecf325199809"), looks := true }, kinds := [], alts := [], laidByText := true, laidKinds := [.sentinel, .sentinel, .sentinel], laidTests := true, laidLooks := .later }
def FnExactWriteLinesUptoCardSaid : Prop := Claim7.holds Tryd.pinned (.plain (OpenSpec.upto fnExactWriteLinesSpec)) fnExactWriteLinesUptoCard

/-- THE SECOND FORM's CARD OF 'laws.FnExactFlushBoth'. -/
def fnExactFlushBothUptoCard : Claim7 := { stood := { row := fnExactFlushBothUptoRow, standIns := [], harness := (true, "27f02ecaf56af079e68bb89d4c72f04ee29a6f7821e30fa01852ecf325199809"), looks := true }, kinds := [], alts := [], laidByText := true, laidKinds := [.sentinel, .sentinel, .sentinel], laidTests := true, laidLooks := .later }
def FnExactFlushBothUptoCardSaid : Prop := Claim7.holds Tryd.pinned (.plain (OpenSpec.upto fnExactFlushBothSpec)) fnExactFlushBothUptoCard

/-- THE SECOND FORM's CARD OF 'laws.FnExactReadBoth'. -/
def fnExactReadBothUptoCard : Claim7 := { stood := { row := fnExactReadBothUptoRow, standIns := [], harness := (true, "27f02ecaf56af079e68bb89d4c72f04ee29a6f7821e30fa01852ecf325199809"), looks := true }, kinds := [], alts := [], laidByText := true, laidKinds := [.sentinel, .sentinel, .sentinel], laidTests := true, laidLooks := .later }
def FnExactReadBothUptoCardSaid : Prop := Claim7.holds Tryd.pinned (.plain (OpenSpec.upto fnExactReadBothSpec)) fnExactReadBothUptoCard

/-- THE SECOND FORM's CARD OF 'laws.FnExactWriteBoth'. -/
def fnExactWriteBothUptoCard : Claim7 := { stood := { row := fnExactWriteBothUptoRow, standIns := [], harness := (true, "27f02ecaf56af079e68bb89d4c72f04ee29a6f7821e30fa01852ecf325199809"), looks := true }, kinds := [], alts := [], laidByText := true, laidKinds := [.sentinel, .sentinel, .sentinel], laidTests := true, laidLooks := .later }
def FnExactWriteBothUptoCardSaid : Prop := Claim7.holds Tryd.pinned (.plain (OpenSpec.upto fnExactWriteBothSpec)) fnExactWriteBothUptoCard

/-- THE SECOND FORM's CARD OF 'laws.FnExactSeekBoth'. -/
def fnExactSeekBothUptoCard : Claim7 := { stood := { row := fnExactSeekBothUptoRow, standIns := [], harness := (true, "27f02ecaf56af079e68bb89d4c72f04ee29a6f7821e30fa01852ecf325199809"), looks := true }, kinds := [], alts := [], laidByText := true, laidKinds := [.sentinel, .sentinel, .sentinel, .sentinel], laidTests := true, laidLooks := .later }
def FnExactSeekBothUptoCardSaid : Prop := Claim7.holds Tryd.pinned (.plain (OpenSpec.upto fnExactSeekBothSpec)) fnExactSeekBothUptoCard

/-- THE SECOND FORM's CARD OF 'laws.FnExactCutBoth'. -/
def fnExactCutBothUptoCard : Claim7 := { stood := { row := fnExactCutBothUptoRow, standIns := [], harness := (true, "27f02ecaf56af079e68bb89d4c72f04ee29a6f7821e30fa01852ecf325199809"), looks := true }, kinds := [], alts := [], laidByText := true, laidKinds := [.sentinel, .sentinel, .sentinel], laidTests := true, laidLooks := .later }
def FnExactCutBothUptoCardSaid : Prop := Claim7.holds Tryd.pinned (.plain (OpenSpec.upto fnExactCutBothSpec)) fnExactCutBothUptoCard
end Rows
end Go.Proofs.YtphkkalkajleiaaDoor
