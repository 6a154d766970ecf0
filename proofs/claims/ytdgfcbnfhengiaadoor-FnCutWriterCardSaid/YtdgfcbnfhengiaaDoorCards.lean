/-
  DERIVED. GIVEN WITH THE SEED: THE CARDS: each row of YtdgfcbnfhengiaaDoorRows.lean that lists a variable, with what it lists TIED to the program's text (the seventh form; the later family's looks); each row that meets fmt, with fmt's text TOLD by the authors' own Lean function (tested against real Go, not proved from fmt's source: count such statements apart). THE CARD IS WHAT COUNTS. Prove the row's statement (the work); the ties are given (YtdgfcbnfhengiaaDoorTie.lean); close each card by the builder's one call (the guide's Derived/Test/ToyasCard.lean, 'card_holds'). Laid BY PROGRAM, IN A SANDBOX (cutbox-door.mjs). By AI agents, Wed Nov 11 2026. No macro, syntax, notation, axiom, sorry.
-/
import Derived.Test.YtdgfcbnfhengiaaDoorRows
import GoSem.ClaimSeven
namespace Go.Proofs.YtdgfcbnfhengiaaDoor
namespace Rows

/-- THE TIED CARD OF 'laws.FnValidWriter'. -/
def fnValidWriterCard : Claim7 := { stood := { row := fnValidWriterRow, standIns := [], harness := (true, "f2ec5fa65cf0a68b1de841fca5cd3b163ba9f653aef0486d7c19fbb02ec24a8f"), looks := true }, kinds := [], alts := [], laidByText := true, laidKinds := [.sentinel, .sentinel, .sentinel], laidTests := true, laidLooks := .later }
def FnValidWriterCardSaid : Prop := Claim7.holds Tryd.pinned (.plain (OpenSpec.ofChange fnValidWriterSpec)) fnValidWriterCard

/-- THE TIED CARD OF 'laws.FnFlushWriter'. -/
def fnFlushWriterCard : Claim7 := { stood := { row := fnFlushWriterRow, standIns := [], harness := (true, "f2ec5fa65cf0a68b1de841fca5cd3b163ba9f653aef0486d7c19fbb02ec24a8f"), looks := true }, kinds := [], alts := [], laidByText := true, laidKinds := [.sentinel, .sentinel, .sentinel], laidTests := true, laidLooks := .later }
def FnFlushWriterCardSaid : Prop := Claim7.holds Tryd.pinned (.plain (OpenSpec.ofChange fnFlushWriterSpec)) fnFlushWriterCard

/-- THE TIED CARD OF 'laws.FnSeekWriter'. -/
def fnSeekWriterCard : Claim7 := { stood := { row := fnSeekWriterRow, standIns := [], harness := (true, "f2ec5fa65cf0a68b1de841fca5cd3b163ba9f653aef0486d7c19fbb02ec24a8f"), looks := true }, kinds := [], alts := [], laidByText := true, laidKinds := [.sentinel, .sentinel, .sentinel, .sentinel], laidTests := true, laidLooks := .later }
def FnSeekWriterCardSaid : Prop := Claim7.holds Tryd.pinned (.plain (OpenSpec.ofChange fnSeekWriterSpec)) fnSeekWriterCard

/-- THE TIED CARD OF 'laws.FnCutWriter'. -/
def fnCutWriterCard : Claim7 := { stood := { row := fnCutWriterRow, standIns := [], harness := (true, "f2ec5fa65cf0a68b1de841fca5cd3b163ba9f653aef0486d7c19fbb02ec24a8f"), looks := true }, kinds := [], alts := [], laidByText := true, laidKinds := [.sentinel, .sentinel, .sentinel], laidTests := true, laidLooks := .later }
def FnCutWriterCardSaid : Prop := Claim7.holds Tryd.pinned (.plain (OpenSpec.ofChange fnCutWriterSpec)) fnCutWriterCard

/-- THE TIED CARD OF 'laws.FnWriteBytes'. -/
def fnWriteBytesCard : Claim7 := { stood := { row := fnWriteBytesRow, standIns := [], harness := (true, "f2ec5fa65cf0a68b1de841fca5cd3b163ba9f653aef0486d7c19fbb02ec24a8f"), looks := true }, kinds := [], alts := [], laidByText := true, laidKinds := [.sentinel, .sentinel, .sentinel], laidTests := true, laidLooks := .later }
def FnWriteBytesCardSaid : Prop := Claim7.holds Tryd.pinned (.plain (OpenSpec.ofChange fnWriteBytesSpec)) fnWriteBytesCard

/-- THE TIED CARD OF 'laws.FnWriteBytesTwice'. -/
def fnWriteBytesTwiceCard : Claim7 := { stood := { row := fnWriteBytesTwiceRow, standIns := [], harness := (true, "f2ec5fa65cf0a68b1de841fca5cd3b163ba9f653aef0486d7c19fbb02ec24a8f"), looks := true }, kinds := [], alts := [], laidByText := true, laidKinds := [.sentinel, .sentinel, .sentinel], laidTests := true, laidLooks := .later }
def FnWriteBytesTwiceCardSaid : Prop := Claim7.holds Tryd.pinned (.plain (OpenSpec.ofChange fnWriteBytesTwiceSpec)) fnWriteBytesTwiceCard

/-- THE TIED CARD OF 'laws.FnWriteLines'. -/
def fnWriteLinesCard : Claim7 := { stood := { row := fnWriteLinesRow, standIns := [], harness := (true, "f2ec5fa65cf0a68b1de841fca5cd3b163ba9f653aef0486d7c19fbb02ec24a8f"), looks := true }, kinds := [], alts := [], laidByText := true, laidKinds := [.sentinel, .sentinel, .sentinel], laidTests := true, laidLooks := .later }
def FnWriteLinesCardSaid : Prop := Claim7.holds Tryd.pinned (.plain (OpenSpec.ofChange fnWriteLinesSpec)) fnWriteLinesCard

/-- THE TIED CARD OF 'laws.FnRoomOf'. -/
def fnRoomOfCard : Claim7 := { stood := { row := fnRoomOfRow, standIns := [], harness := (true, "f2ec5fa65cf0a68b1de841fca5cd3b163ba9f653aef0486d7c19fbb02ec24a8f"), looks := true }, kinds := [], alts := [], laidByText := true, laidKinds := [.sentinel, .sentinel, .sentinel], laidTests := true, laidLooks := .later }
def FnRoomOfCardSaid : Prop := Claim7.holds Tryd.pinned (.plain (OpenSpec.ofChange fnRoomOfSpec)) fnRoomOfCard

/-- THE TIED CARD OF 'laws.FnExactWriteBytes'. -/
def fnExactWriteBytesCard : Claim7 := { stood := { row := fnExactWriteBytesRow, standIns := [], harness := (true, "f2ec5fa65cf0a68b1de841fca5cd3b163ba9f653aef0486d7c19fbb02ec24a8f"), looks := true }, kinds := [], alts := [], laidByText := true, laidKinds := [.sentinel, .sentinel, .sentinel], laidTests := true, laidLooks := .later }
def FnExactWriteBytesCardSaid : Prop := Claim7.holds Tryd.pinned (.plain (OpenSpec.ofChange fnExactWriteBytesSpec)) fnExactWriteBytesCard

/-- THE TIED CARD OF 'laws.FnExactWriteLines'. -/
def fnExactWriteLinesCard : Claim7 := { stood := { row := fnExactWriteLinesRow, standIns := [], harness := (true, "f2ec5fa65cf0a68b1de841fca5cd3b163ba9f653aef0486d7c19fbb02ec24a8f"), looks := true }, kinds := [], alts := [], laidByText := true, laidKinds := [.sentinel, .sentinel, .sentinel], laidTests := true, laidLooks := .later }
def FnExactWriteLinesCardSaid : Prop := Claim7.holds Tryd.pinned (.plain (OpenSpec.ofChange fnExactWriteLinesSpec)) fnExactWriteLinesCard

/-- THE SECOND FORM's CARD OF 'laws.FnValidWriter'. -/
def fnValidWriterUptoCard : Claim7 := { stood := { row := fnValidWriterUptoRow, standIns := [], harness := (true, "f2ec5fa65cf0a68b1de841fca5cd3b163ba9f653aef0486d7c19fbb02ec24a8f"), looks := true }, kinds := [], alts := [], laidByText := true, laidKinds := [.sentinel, .sentinel, .sentinel], laidTests := true, laidLooks := .later }
def FnValidWriterUptoCardSaid : Prop := Claim7.holds Tryd.pinned (.plain (OpenSpec.upto fnValidWriterSpec)) fnValidWriterUptoCard

/-- THE SECOND FORM's CARD OF 'laws.FnFlushWriter'. -/
def fnFlushWriterUptoCard : Claim7 := { stood := { row := fnFlushWriterUptoRow, standIns := [], harness := (true, "f2ec5fa65cf0a68b1de841fca5cd3b163ba9f653aef0486d7c19fbb02ec24a8f"), looks := true }, kinds := [], alts := [], laidByText := true, laidKinds := [.sentinel, .sentinel, .sentinel], laidTests := true, laidLooks := .later }
def FnFlushWriterUptoCardSaid : Prop := Claim7.holds Tryd.pinned (.plain (OpenSpec.upto fnFlushWriterSpec)) fnFlushWriterUptoCard

/-- THE SECOND FORM's CARD OF 'laws.FnSeekWriter'. -/
def fnSeekWriterUptoCard : Claim7 := { stood := { row := fnSeekWriterUptoRow, standIns := [], harness := (true, "f2ec5fa65cf0a68b1de841fca5cd3b163ba9f653aef0486d7c19fbb02ec24a8f"), looks := true }, kinds := [], alts := [], laidByText := true, laidKinds := [.sentinel, .sentinel, .sentinel, .sentinel], laidTests := true, laidLooks := .later }
def FnSeekWriterUptoCardSaid : Prop := Claim7.holds Tryd.pinned (.plain (OpenSpec.upto fnSeekWriterSpec)) fnSeekWriterUptoCard

/-- THE SECOND FORM's CARD OF 'laws.FnCutWriter'. -/
def fnCutWriterUptoCard : Claim7 := { stood := { row := fnCutWriterUptoRow, standIns := [], harness := (true, "f2ec5fa65cf0a68b1de841fca5cd3b163ba9f653aef0486d7c19fbb02ec24a8f"), looks := true }, kinds := [], alts := [], laidByText := true, laidKinds := [.sentinel, .sentinel, .sentinel], laidTests := true, laidLooks := .later }
def FnCutWriterUptoCardSaid : Prop := Claim7.holds Tryd.pinned (.plain (OpenSpec.upto fnCutWriterSpec)) fnCutWriterUptoCard

/-- THE SECOND FORM's CARD OF 'laws.FnWriteBytes'. -/
def fnWriteBytesUptoCard : Claim7 := { stood := { row := fnWriteBytesUptoRow, standIns := [], harness := (true, "f2ec5fa65cf0a68b1de841fca5cd3b163ba9f653aef0486d7c19fbb02ec24a8f"), looks := true }, kinds := [], alts := [], laidByText := true, laidKinds := [.sentinel, .sentinel, .sentinel], laidTests := true, laidLooks := .later }
def FnWriteBytesUptoCardSaid : Prop := Claim7.holds Tryd.pinned (.plain (OpenSpec.upto fnWriteBytesSpec)) fnWriteBytesUptoCard

/-- THE SECOND FORM's CARD OF 'laws.FnWriteBytesTwice'. -/
def fnWriteBytesTwiceUptoCard : Claim7 := { stood := { row := fnWriteBytesTwiceUptoRow, standIns := [], harness := (true, "f2ec5fa65cf0a68b1de841fca5cd3b163ba9f653aef0486d7c19fbb02ec24a8f"), looks := true }, kinds := [], alts := [], laidByText := true, laidKinds := [.sentinel, .sentinel, .sentinel], laidTests := true, laidLooks := .later }
def FnWriteBytesTwiceUptoCardSaid : Prop := Claim7.holds Tryd.pinned (.plain (OpenSpec.upto fnWriteBytesTwiceSpec)) fnWriteBytesTwiceUptoCard

/-- THE SECOND FORM's CARD OF 'laws.FnWriteLines'. -/
def fnWriteLinesUptoCard : Claim7 := { stood := { row := fnWriteLinesUptoRow, standIns := [], harness := (true, "f2ec5fa65cf0a68b1de841fca5cd3b163ba9f653aef0486d7c19fbb02ec24a8f"), looks := true }, kinds := [], alts := [], laidByText := true, laidKinds := [.sentinel, .sentinel, .sentinel], laidTests := true, laidLooks := .later }
def FnWriteLinesUptoCardSaid : Prop := Claim7.holds Tryd.pinned (.plain (OpenSpec.upto fnWriteLinesSpec)) fnWriteLinesUptoCard

/-- THE SECOND FORM's CARD OF 'laws.FnRoomOf'. -/
def fnRoomOfUptoCard : Claim7 := { stood := { row := fnRoomOfUptoRow, standIns := [], harness := (true, "f2ec5fa65cf0a68b1de841fca5cd3b163ba9f653aef0486d7c19fbb02ec24a8f"), looks := true }, kinds := [], alts := [], laidByText := true, laidKinds := [.sentinel, .sentinel, .sentinel], laidTests := true, laidLooks := .later }
def FnRoomOfUptoCardSaid : Prop := Claim7.holds Tryd.pinned (.plain (OpenSpec.upto fnRoomOfSpec)) fnRoomOfUptoCard

/-- THE SECOND FORM's CARD OF 'laws.FnExactWriteBytes'. -/
def fnExactWriteBytesUptoCard : Claim7 := { stood := { row := fnExactWriteBytesUptoRow, standIns := [], harness := (true, "f2ec5fa65cf0a68b1de841fca5cd3b163ba9f653aef0486d7c19fbb02ec24a8f"), looks := true }, kinds := [], alts := [], laidByText := true, laidKinds := [.sentinel, .sentinel, .sentinel], laidTests := true, laidLooks := .later }
def FnExactWriteBytesUptoCardSaid : Prop := Claim7.holds Tryd.pinned (.plain (OpenSpec.upto fnExactWriteBytesSpec)) fnExactWriteBytesUptoCard

/-- THE SECOND FORM's CARD OF 'laws.FnExactWriteLines'. -/
def fnExactWriteLinesUptoCard : Claim7 := { stood := { row := fnExactWriteLinesUptoRow, standIns := [], harness := (true, "f2ec5fa65cf0a68b1de841fca5cd3b163ba9f653aef0486d7c19fbb02ec24a8f"), looks := true }, kinds := [], alts := [], laidByText := true, laidKinds := [.sentinel, .sentinel, .sentinel], laidTests := true, laidLooks := .later }
def FnExactWriteLinesUptoCardSaid : Prop := Claim7.holds Tryd.pinned (.plain (OpenSpec.upto fnExactWriteLinesSpec)) fnExactWriteLinesUptoCard
end Rows
end Go.Proofs.YtdgfcbnfhengiaaDoor
