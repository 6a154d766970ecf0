/-
  DERIVED. GIVEN WITH THE SEED: THE CARDS: each row of YtlhbodamdjbahaaDoorRows.lean that lists a variable, with what it lists TIED to the program's text (the seventh form; the later family's looks); each row that meets fmt, with fmt's text TOLD by the authors' own Lean function (tested against real Go, not proved from fmt's source: count such statements apart). THE CARD IS WHAT COUNTS. Prove the row's statement (the work); the ties are given (YtlhbodamdjbahaaDoorTie.lean); close each card by the builder's one call (the guide's Derived/Test/ToyasCard.lean, 'card_holds'). Laid BY PROGRAM, IN A SANDBOX (cutbox-door.mjs). By AI agents, Wed Nov 11 2026. No macro, syntax, notation, axiom, sorry.
-/
import Derived.Test.YtlhbodamdjbahaaDoorRows
import GoSem.ClaimSeven
namespace Go.Proofs.YtlhbodamdjbahaaDoor
namespace Rows

/-- THE TIED CARD OF 'laws.FnExactEncodePoints'. -/
def fnExactEncodePointsCard : Claim7 := { stood := { row := fnExactEncodePointsRow, standIns := [], harness := (true, "95bc32333ede9a2c6441f3b1219ad86e50fdec898d8e03d7cb0e75b572f5e543"), looks := false }, kinds := [], alts := [], laidByText := true, laidKinds := [.data], laidTests := true, laidLooks := .later }
def FnExactEncodePointsCardSaid : Prop := Claim7.holds Tryd.pinned (.plain (OpenSpec.ofChange fnExactEncodePointsSpec)) fnExactEncodePointsCard

/-- THE TIED CARD OF 'laws.FnExactDecodeSome'. -/
def fnExactDecodeSomeCard : Claim7 := { stood := { row := fnExactDecodeSomeRow, standIns := [], harness := (true, "95bc32333ede9a2c6441f3b1219ad86e50fdec898d8e03d7cb0e75b572f5e543"), looks := false }, kinds := [], alts := [], laidByText := true, laidKinds := [.data], laidTests := true, laidLooks := .later }
def FnExactDecodeSomeCardSaid : Prop := Claim7.holds Tryd.pinned (.plain (OpenSpec.ofChange fnExactDecodeSomeSpec)) fnExactDecodeSomeCard

/-- THE TIED CARD OF 'laws.FnExactDecodeBytes'. -/
def fnExactDecodeBytesCard : Claim7 := { stood := { row := fnExactDecodeBytesRow, standIns := [], harness := (true, "95bc32333ede9a2c6441f3b1219ad86e50fdec898d8e03d7cb0e75b572f5e543"), looks := false }, kinds := [], alts := [], laidByText := true, laidKinds := [.data], laidTests := true, laidLooks := .later }
def FnExactDecodeBytesCardSaid : Prop := Claim7.holds Tryd.pinned (.plain (OpenSpec.ofChange fnExactDecodeBytesSpec)) fnExactDecodeBytesCard

/-- THE TIED CARD OF 'laws.FnExactBadAt'. -/
def fnExactBadAtCard : Claim7 := { stood := { row := fnExactBadAtRow, standIns := [], harness := (true, "95bc32333ede9a2c6441f3b1219ad86e50fdec898d8e03d7cb0e75b572f5e543"), looks := false }, kinds := [], alts := [], laidByText := true, laidKinds := [.data], laidTests := true, laidLooks := .later }
def FnExactBadAtCardSaid : Prop := Claim7.holds Tryd.pinned (.plain (OpenSpec.ofChange fnExactBadAtSpec)) fnExactBadAtCard

/-- THE TIED CARD OF 'laws.FnExactCountPoints'. -/
def fnExactCountPointsCard : Claim7 := { stood := { row := fnExactCountPointsRow, standIns := [], harness := (true, "95bc32333ede9a2c6441f3b1219ad86e50fdec898d8e03d7cb0e75b572f5e543"), looks := false }, kinds := [], alts := [], laidByText := true, laidKinds := [.data], laidTests := true, laidLooks := .later }
def FnExactCountPointsCardSaid : Prop := Claim7.holds Tryd.pinned (.plain (OpenSpec.ofChange fnExactCountPointsSpec)) fnExactCountPointsCard

/-- THE TIED CARD OF 'laws.FnExactSyncAt'. -/
def fnExactSyncAtCard : Claim7 := { stood := { row := fnExactSyncAtRow, standIns := [], harness := (true, "95bc32333ede9a2c6441f3b1219ad86e50fdec898d8e03d7cb0e75b572f5e543"), looks := false }, kinds := [], alts := [], laidByText := true, laidKinds := [.data], laidTests := true, laidLooks := .later }
def FnExactSyncAtCardSaid : Prop := Claim7.holds Tryd.pinned (.plain (OpenSpec.ofChange fnExactSyncAtSpec)) fnExactSyncAtCard

/-- THE TIED CARD OF 'laws.FnExactPlacesOf'. -/
def fnExactPlacesOfCard : Claim7 := { stood := { row := fnExactPlacesOfRow, standIns := [], harness := (true, "95bc32333ede9a2c6441f3b1219ad86e50fdec898d8e03d7cb0e75b572f5e543"), looks := false }, kinds := [], alts := [], laidByText := true, laidKinds := [.data], laidTests := true, laidLooks := .later }
def FnExactPlacesOfCardSaid : Prop := Claim7.holds Tryd.pinned (.plain (OpenSpec.ofChange fnExactPlacesOfSpec)) fnExactPlacesOfCard

/-- THE SECOND FORM's CARD OF 'laws.FnExactEncodePoints'. -/
def fnExactEncodePointsUptoCard : Claim7 := { stood := { row := fnExactEncodePointsUptoRow, standIns := [], harness := (true, "95bc32333ede9a2c6441f3b1219ad86e50fdec898d8e03d7cb0e75b572f5e543"), looks := false }, kinds := [], alts := [], laidByText := true, laidKinds := [.data], laidTests := true, laidLooks := .later }
def FnExactEncodePointsUptoCardSaid : Prop := Claim7.holds Tryd.pinned (.plain (OpenSpec.upto fnExactEncodePointsSpec)) fnExactEncodePointsUptoCard

/-- THE SECOND FORM's CARD OF 'laws.FnExactDecodeSome'. -/
def fnExactDecodeSomeUptoCard : Claim7 := { stood := { row := fnExactDecodeSomeUptoRow, standIns := [], harness := (true, "95bc32333ede9a2c6441f3b1219ad86e50fdec898d8e03d7cb0e75b572f5e543"), looks := false }, kinds := [], alts := [], laidByText := true, laidKinds := [.data], laidTests := true, laidLooks := .later }
def FnExactDecodeSomeUptoCardSaid : Prop := Claim7.holds Tryd.pinned (.plain (OpenSpec.upto fnExactDecodeSomeSpec)) fnExactDecodeSomeUptoCard

/-- THE SECOND FORM's CARD OF 'laws.FnExactDecodeBytes'. -/
def fnExactDecodeBytesUptoCard : Claim7 := { stood := { row := fnExactDecodeBytesUptoRow, standIns := [], harness := (true, "95bc32333ede9a2c6441f3b1219ad86e50fdec898d8e03d7cb0e75b572f5e543"), looks := false }, kinds := [], alts := [], laidByText := true, laidKinds := [.data], laidTests := true, laidLooks := .later }
def FnExactDecodeBytesUptoCardSaid : Prop := Claim7.holds Tryd.pinned (.plain (OpenSpec.upto fnExactDecodeBytesSpec)) fnExactDecodeBytesUptoCard

/-- THE SECOND FORM's CARD OF 'laws.FnExactBadAt'. -/
def fnExactBadAtUptoCard : Claim7 := { stood := { row := fnExactBadAtUptoRow, standIns := [], harness := (true, "95bc32333ede9a2c6441f3b1219ad86e50fdec898d8e03d7cb0e75b572f5e543"), looks := false }, kinds := [], alts := [], laidByText := true, laidKinds := [.data], laidTests := true, laidLooks := .later }
def FnExactBadAtUptoCardSaid : Prop := Claim7.holds Tryd.pinned (.plain (OpenSpec.upto fnExactBadAtSpec)) fnExactBadAtUptoCard

/-- THE SECOND FORM's CARD OF 'laws.FnExactCountPoints'. -/
def fnExactCountPointsUptoCard : Claim7 := { stood := { row := fnExactCountPointsUptoRow, standIns := [], harness := (true, "95bc32333ede9a2c6441f3b1219ad86e50fdec898d8e03d7cb0e75b572f5e543"), looks := false }, kinds := [], alts := [], laidByText := true, laidKinds := [.data], laidTests := true, laidLooks := .later }
def FnExactCountPointsUptoCardSaid : Prop := Claim7.holds Tryd.pinned (.plain (OpenSpec.upto fnExactCountPointsSpec)) fnExactCountPointsUptoCard

/-- THE SECOND FORM's CARD OF 'laws.FnExactSyncAt'. -/
def fnExactSyncAtUptoCard : Claim7 := { stood := { row := fnExactSyncAtUptoRow, standIns := [], harness := (true, "95bc32333ede9a2c6441f3b1219ad86e50fdec898d8e03d7cb0e75b572f5e543"), looks := false }, kinds := [], alts := [], laidByText := true, laidKinds := [.data], laidTests := true, laidLooks := .later }
def FnExactSyncAtUptoCardSaid : Prop := Claim7.holds Tryd.pinned (.plain (OpenSpec.upto fnExactSyncAtSpec)) fnExactSyncAtUptoCard

/-- THE SECOND FORM's CARD OF 'laws.FnExactPlacesOf'. -/
def fnExactPlacesOfUptoCard : Claim7 := { stood := { row := fnExactPlacesOfUptoRow, standIns := [], harness := (true, "95bc32333ede9a2c6441f3b1219ad86e50fdec898d8e03d7cb0e75b572f5e543"), looks := false }, kinds := [], alts := [], laidByText := true, laidKinds := [.data], laidTests := true, laidLooks := .later }
def FnExactPlacesOfUptoCardSaid : Prop := Claim7.holds Tryd.pinned (.plain (OpenSpec.upto fnExactPlacesOfSpec)) fnExactPlacesOfUptoCard
end Rows
end Go.Proofs.YtlhbodamdjbahaaDoor
