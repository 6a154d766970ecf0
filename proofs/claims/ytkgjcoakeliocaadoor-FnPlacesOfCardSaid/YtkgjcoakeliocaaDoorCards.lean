/-
  DERIVED. GIVEN WITH THE SEED: THE CARDS: each row of YtkgjcoakeliocaaDoorRows.lean that lists a variable, with what it lists TIED to the program's text (the seventh form; the later family's looks); each row that meets fmt, with fmt's text TOLD by the authors' own Lean function (tested against real Go, not proved from fmt's source: count such statements apart). THE CARD IS WHAT COUNTS. Prove the row's statement (the work); the ties are given (YtkgjcoakeliocaaDoorTie.lean); close each card by the builder's one call (the guide's Derived/Test/ToyasCard.lean, 'card_holds'). Laid BY PROGRAM, IN A SANDBOX (cutbox-door.mjs). By AI agents, Wed Nov 11 2026. No macro, syntax, notation, axiom, sorry.
-/
import Derived.Test.YtkgjcoakeliocaaDoorRows
import GoSem.ClaimSeven
namespace Go.Proofs.YtkgjcoakeliocaaDoor
namespace Rows

/-- THE TIED CARD OF 'laws.FnValidPoints'. -/
def fnValidPointsCard : Claim7 := { stood := { row := fnValidPointsRow, standIns := [], harness := (true, "e955d2cc271b9f890f04abef48941b399d1bb22704fefab399b249387c6c96c0"), looks := false }, kinds := [], alts := [], laidByText := true, laidKinds := [.data], laidTests := true, laidLooks := .later }
def FnValidPointsCardSaid : Prop := Claim7.holds Tryd.pinned (.plain (OpenSpec.ofChange fnValidPointsSpec)) fnValidPointsCard

/-- THE TIED CARD OF 'laws.FnEncodePoints'. -/
def fnEncodePointsCard : Claim7 := { stood := { row := fnEncodePointsRow, standIns := [], harness := (true, "e955d2cc271b9f890f04abef48941b399d1bb22704fefab399b249387c6c96c0"), looks := false }, kinds := [], alts := [], laidByText := true, laidKinds := [.data], laidTests := true, laidLooks := .later }
def FnEncodePointsCardSaid : Prop := Claim7.holds Tryd.pinned (.plain (OpenSpec.ofChange fnEncodePointsSpec)) fnEncodePointsCard

/-- THE TIED CARD OF 'laws.FnDecodeSome'. -/
def fnDecodeSomeCard : Claim7 := { stood := { row := fnDecodeSomeRow, standIns := [], harness := (true, "e955d2cc271b9f890f04abef48941b399d1bb22704fefab399b249387c6c96c0"), looks := false }, kinds := [], alts := [], laidByText := true, laidKinds := [.data], laidTests := true, laidLooks := .later }
def FnDecodeSomeCardSaid : Prop := Claim7.holds Tryd.pinned (.plain (OpenSpec.ofChange fnDecodeSomeSpec)) fnDecodeSomeCard

/-- THE TIED CARD OF 'laws.FnDecodeSomeLead'. -/
def fnDecodeSomeLeadCard : Claim7 := { stood := { row := fnDecodeSomeLeadRow, standIns := [], harness := (true, "e955d2cc271b9f890f04abef48941b399d1bb22704fefab399b249387c6c96c0"), looks := false }, kinds := [], alts := [], laidByText := true, laidKinds := [.data], laidTests := true, laidLooks := .later }
def FnDecodeSomeLeadCardSaid : Prop := Claim7.holds Tryd.pinned (.plain (OpenSpec.ofChange fnDecodeSomeLeadSpec)) fnDecodeSomeLeadCard

/-- THE TIED CARD OF 'laws.FnDecodeBytes'. -/
def fnDecodeBytesCard : Claim7 := { stood := { row := fnDecodeBytesRow, standIns := [], harness := (true, "e955d2cc271b9f890f04abef48941b399d1bb22704fefab399b249387c6c96c0"), looks := false }, kinds := [], alts := [], laidByText := true, laidKinds := [.data], laidTests := true, laidLooks := .later }
def FnDecodeBytesCardSaid : Prop := Claim7.holds Tryd.pinned (.plain (OpenSpec.ofChange fnDecodeBytesSpec)) fnDecodeBytesCard

/-- THE TIED CARD OF 'laws.FnDecodeBytesModes'. -/
def fnDecodeBytesModesCard : Claim7 := { stood := { row := fnDecodeBytesModesRow, standIns := [], harness := (true, "e955d2cc271b9f890f04abef48941b399d1bb22704fefab399b249387c6c96c0"), looks := false }, kinds := [], alts := [], laidByText := true, laidKinds := [.data], laidTests := true, laidLooks := .later }
def FnDecodeBytesModesCardSaid : Prop := Claim7.holds Tryd.pinned (.plain (OpenSpec.ofChange fnDecodeBytesModesSpec)) fnDecodeBytesModesCard

/-- THE TIED CARD OF 'laws.FnBadAt'. -/
def fnBadAtCard : Claim7 := { stood := { row := fnBadAtRow, standIns := [], harness := (true, "e955d2cc271b9f890f04abef48941b399d1bb22704fefab399b249387c6c96c0"), looks := false }, kinds := [], alts := [], laidByText := true, laidKinds := [.data], laidTests := true, laidLooks := .later }
def FnBadAtCardSaid : Prop := Claim7.holds Tryd.pinned (.plain (OpenSpec.ofChange fnBadAtSpec)) fnBadAtCard

/-- THE TIED CARD OF 'laws.FnCountPoints'. -/
def fnCountPointsCard : Claim7 := { stood := { row := fnCountPointsRow, standIns := [], harness := (true, "e955d2cc271b9f890f04abef48941b399d1bb22704fefab399b249387c6c96c0"), looks := false }, kinds := [], alts := [], laidByText := true, laidKinds := [.data], laidTests := true, laidLooks := .later }
def FnCountPointsCardSaid : Prop := Claim7.holds Tryd.pinned (.plain (OpenSpec.ofChange fnCountPointsSpec)) fnCountPointsCard

/-- THE TIED CARD OF 'laws.FnSyncAt'. -/
def fnSyncAtCard : Claim7 := { stood := { row := fnSyncAtRow, standIns := [], harness := (true, "e955d2cc271b9f890f04abef48941b399d1bb22704fefab399b249387c6c96c0"), looks := false }, kinds := [], alts := [], laidByText := true, laidKinds := [.data], laidTests := true, laidLooks := .later }
def FnSyncAtCardSaid : Prop := Claim7.holds Tryd.pinned (.plain (OpenSpec.ofChange fnSyncAtSpec)) fnSyncAtCard

/-- THE TIED CARD OF 'laws.FnPlacesOf'. -/
def fnPlacesOfCard : Claim7 := { stood := { row := fnPlacesOfRow, standIns := [], harness := (true, "e955d2cc271b9f890f04abef48941b399d1bb22704fefab399b249387c6c96c0"), looks := false }, kinds := [], alts := [], laidByText := true, laidKinds := [.data], laidTests := true, laidLooks := .later }
def FnPlacesOfCardSaid : Prop := Claim7.holds Tryd.pinned (.plain (OpenSpec.ofChange fnPlacesOfSpec)) fnPlacesOfCard

/-- THE TIED CARD OF 'laws.FnCleanPoints'. -/
def fnCleanPointsCard : Claim7 := { stood := { row := fnCleanPointsRow, standIns := [], harness := (true, "e955d2cc271b9f890f04abef48941b399d1bb22704fefab399b249387c6c96c0"), looks := false }, kinds := [], alts := [], laidByText := true, laidKinds := [.data], laidTests := true, laidLooks := .later }
def FnCleanPointsCardSaid : Prop := Claim7.holds Tryd.pinned (.plain (OpenSpec.ofChange fnCleanPointsSpec)) fnCleanPointsCard

/-- THE SECOND FORM's CARD OF 'laws.FnValidPoints'. -/
def fnValidPointsUptoCard : Claim7 := { stood := { row := fnValidPointsUptoRow, standIns := [], harness := (true, "e955d2cc271b9f890f04abef48941b399d1bb22704fefab399b249387c6c96c0"), looks := false }, kinds := [], alts := [], laidByText := true, laidKinds := [.data], laidTests := true, laidLooks := .later }
def FnValidPointsUptoCardSaid : Prop := Claim7.holds Tryd.pinned (.plain (OpenSpec.upto fnValidPointsSpec)) fnValidPointsUptoCard

/-- THE SECOND FORM's CARD OF 'laws.FnEncodePoints'. -/
def fnEncodePointsUptoCard : Claim7 := { stood := { row := fnEncodePointsUptoRow, standIns := [], harness := (true, "e955d2cc271b9f890f04abef48941b399d1bb22704fefab399b249387c6c96c0"), looks := false }, kinds := [], alts := [], laidByText := true, laidKinds := [.data], laidTests := true, laidLooks := .later }
def FnEncodePointsUptoCardSaid : Prop := Claim7.holds Tryd.pinned (.plain (OpenSpec.upto fnEncodePointsSpec)) fnEncodePointsUptoCard

/-- THE SECOND FORM's CARD OF 'laws.FnDecodeSome'. -/
def fnDecodeSomeUptoCard : Claim7 := { stood := { row := fnDecodeSomeUptoRow, standIns := [], harness := (true, "e955d2cc271b9f890f04abef48941b399d1bb22704fefab399b249387c6c96c0"), looks := false }, kinds := [], alts := [], laidByText := true, laidKinds := [.data], laidTests := true, laidLooks := .later }
def FnDecodeSomeUptoCardSaid : Prop := Claim7.holds Tryd.pinned (.plain (OpenSpec.upto fnDecodeSomeSpec)) fnDecodeSomeUptoCard

/-- THE SECOND FORM's CARD OF 'laws.FnDecodeSomeLead'. -/
def fnDecodeSomeLeadUptoCard : Claim7 := { stood := { row := fnDecodeSomeLeadUptoRow, standIns := [], harness := (true, "e955d2cc271b9f890f04abef48941b399d1bb22704fefab399b249387c6c96c0"), looks := false }, kinds := [], alts := [], laidByText := true, laidKinds := [.data], laidTests := true, laidLooks := .later }
def FnDecodeSomeLeadUptoCardSaid : Prop := Claim7.holds Tryd.pinned (.plain (OpenSpec.upto fnDecodeSomeLeadSpec)) fnDecodeSomeLeadUptoCard

/-- THE SECOND FORM's CARD OF 'laws.FnDecodeBytes'. -/
def fnDecodeBytesUptoCard : Claim7 := { stood := { row := fnDecodeBytesUptoRow, standIns := [], harness := (true, "e955d2cc271b9f890f04abef48941b399d1bb22704fefab399b249387c6c96c0"), looks := false }, kinds := [], alts := [], laidByText := true, laidKinds := [.data], laidTests := true, laidLooks := .later }
def FnDecodeBytesUptoCardSaid : Prop := Claim7.holds Tryd.pinned (.plain (OpenSpec.upto fnDecodeBytesSpec)) fnDecodeBytesUptoCard

/-- THE SECOND FORM's CARD OF 'laws.FnDecodeBytesModes'. -/
def fnDecodeBytesModesUptoCard : Claim7 := { stood := { row := fnDecodeBytesModesUptoRow, standIns := [], harness := (true, "e955d2cc271b9f890f04abef48941b399d1bb22704fefab399b249387c6c96c0"), looks := false }, kinds := [], alts := [], laidByText := true, laidKinds := [.data], laidTests := true, laidLooks := .later }
def FnDecodeBytesModesUptoCardSaid : Prop := Claim7.holds Tryd.pinned (.plain (OpenSpec.upto fnDecodeBytesModesSpec)) fnDecodeBytesModesUptoCard

/-- THE SECOND FORM's CARD OF 'laws.FnBadAt'. -/
def fnBadAtUptoCard : Claim7 := { stood := { row := fnBadAtUptoRow, standIns := [], harness := (true, "e955d2cc271b9f890f04abef48941b399d1bb22704fefab399b249387c6c96c0"), looks := false }, kinds := [], alts := [], laidByText := true, laidKinds := [.data], laidTests := true, laidLooks := .later }
def FnBadAtUptoCardSaid : Prop := Claim7.holds Tryd.pinned (.plain (OpenSpec.upto fnBadAtSpec)) fnBadAtUptoCard

/-- THE SECOND FORM's CARD OF 'laws.FnCountPoints'. -/
def fnCountPointsUptoCard : Claim7 := { stood := { row := fnCountPointsUptoRow, standIns := [], harness := (true, "e955d2cc271b9f890f04abef48941b399d1bb22704fefab399b249387c6c96c0"), looks := false }, kinds := [], alts := [], laidByText := true, laidKinds := [.data], laidTests := true, laidLooks := .later }
def FnCountPointsUptoCardSaid : Prop := Claim7.holds Tryd.pinned (.plain (OpenSpec.upto fnCountPointsSpec)) fnCountPointsUptoCard

/-- THE SECOND FORM's CARD OF 'laws.FnSyncAt'. -/
def fnSyncAtUptoCard : Claim7 := { stood := { row := fnSyncAtUptoRow, standIns := [], harness := (true, "e955d2cc271b9f890f04abef48941b399d1bb22704fefab399b249387c6c96c0"), looks := false }, kinds := [], alts := [], laidByText := true, laidKinds := [.data], laidTests := true, laidLooks := .later }
def FnSyncAtUptoCardSaid : Prop := Claim7.holds Tryd.pinned (.plain (OpenSpec.upto fnSyncAtSpec)) fnSyncAtUptoCard

/-- THE SECOND FORM's CARD OF 'laws.FnPlacesOf'. -/
def fnPlacesOfUptoCard : Claim7 := { stood := { row := fnPlacesOfUptoRow, standIns := [], harness := (true, "e955d2cc271b9f890f04abef48941b399d1bb22704fefab399b249387c6c96c0"), looks := false }, kinds := [], alts := [], laidByText := true, laidKinds := [.data], laidTests := true, laidLooks := .later }
def FnPlacesOfUptoCardSaid : Prop := Claim7.holds Tryd.pinned (.plain (OpenSpec.upto fnPlacesOfSpec)) fnPlacesOfUptoCard

/-- THE SECOND FORM's CARD OF 'laws.FnCleanPoints'. -/
def fnCleanPointsUptoCard : Claim7 := { stood := { row := fnCleanPointsUptoRow, standIns := [], harness := (true, "e955d2cc271b9f890f04abef48941b399d1bb22704fefab399b249387c6c96c0"), looks := false }, kinds := [], alts := [], laidByText := true, laidKinds := [.data], laidTests := true, laidLooks := .later }
def FnCleanPointsUptoCardSaid : Prop := Claim7.holds Tryd.pinned (.plain (OpenSpec.upto fnCleanPointsSpec)) fnCleanPointsUptoCard
end Rows
end Go.Proofs.YtkgjcoakeliocaaDoor
