/-
  DERIVED. GIVEN WITH THE SEED: THE CARDS: each row of YtmlkfglnnepjjaaDoorRows.lean that lists a variable, with what it lists TIED to the program's text (the seventh form; the later family's looks); each row that meets fmt, with fmt's text TOLD by the authors' own Lean function (tested against real Go, not proved from fmt's source: count such statements apart). THE CARD IS WHAT COUNTS. Prove the row's statement (the work); the ties are given (YtmlkfglnnepjjaaDoorTie.lean); close each card by the builder's one call (the guide's Derived/Test/ToyasCard.lean, 'card_holds'). Laid BY PROGRAM, IN A SANDBOX (cutbox-door.mjs). By AI agents, Wed Nov 11 2026. No macro, syntax, notation, axiom, sorry.
-/
import Derived.Test.YtmlkfglnnepjjaaDoorRows
import GoSem.ClaimSeven
namespace Go.Proofs.YtmlkfglnnepjjaaDoor
namespace Rows

/-- THE TIED CARD OF 'veilstonelaw01.LexisTokens'. -/
def lexisTokensCard : Claim7 := { stood := { row := lexisTokensRow, standIns := [], harness := (true, "318426c4d049a24a09c11c3aadce8c542648c49135d406d02443f6375003c695"), looks := false }, kinds := [], alts := [], laidByText := true, laidKinds := [.data], laidTests := true, laidLooks := .later }
def LexisTokensCardSaid : Prop := Claim7.holds Tryd.pinned (.plain (OpenSpec.ofChange lexisTokensSpec)) lexisTokensCard

/-- THE TIED CARD OF 'veilstonelaw01.LexisJoins'. -/
def lexisJoinsCard : Claim7 := { stood := { row := lexisJoinsRow, standIns := [], harness := (true, "318426c4d049a24a09c11c3aadce8c542648c49135d406d02443f6375003c695"), looks := false }, kinds := [], alts := [], laidByText := true, laidKinds := [.data], laidTests := true, laidLooks := .later }
def LexisJoinsCardSaid : Prop := Claim7.holds Tryd.pinned (.plain (OpenSpec.ofChange lexisJoinsSpec)) lexisJoinsCard

/-- THE TIED CARD OF 'veilstonelaw01.LexisBack'. -/
def lexisBackCard : Claim7 := { stood := { row := lexisBackRow, standIns := [], harness := (true, "318426c4d049a24a09c11c3aadce8c542648c49135d406d02443f6375003c695"), looks := false }, kinds := [], alts := [], laidByText := true, laidKinds := [.data], laidTests := true, laidLooks := .later }
def LexisBackCardSaid : Prop := Claim7.holds Tryd.pinned (.plain (OpenSpec.ofChange lexisBackSpec)) lexisBackCard

/-- THE TIED CARD OF 'veilstonelaw01.LexisAgain'. -/
def lexisAgainCard : Claim7 := { stood := { row := lexisAgainRow, standIns := [], harness := (true, "318426c4d049a24a09c11c3aadce8c542648c49135d406d02443f6375003c695"), looks := false }, kinds := [], alts := [], laidByText := true, laidKinds := [.data], laidTests := true, laidLooks := .later }
def LexisAgainCardSaid : Prop := Claim7.holds Tryd.pinned (.plain (OpenSpec.ofChange lexisAgainSpec)) lexisAgainCard

/-- THE TIED CARD OF 'veilstonelaw01.LexisPlaces'. -/
def lexisPlacesCard : Claim7 := { stood := { row := lexisPlacesRow, standIns := [], harness := (true, "318426c4d049a24a09c11c3aadce8c542648c49135d406d02443f6375003c695"), looks := false }, kinds := [], alts := [], laidByText := true, laidKinds := [.data], laidTests := true, laidLooks := .later }
def LexisPlacesCardSaid : Prop := Claim7.holds Tryd.pinned (.plain (OpenSpec.ofChange lexisPlacesSpec)) lexisPlacesCard

/-- THE TIED CARD OF 'veilstonelaw01.LexisRemarks'. -/
def lexisRemarksCard : Claim7 := { stood := { row := lexisRemarksRow, standIns := [], harness := (true, "318426c4d049a24a09c11c3aadce8c542648c49135d406d02443f6375003c695"), looks := false }, kinds := [], alts := [], laidByText := true, laidKinds := [.data], laidTests := true, laidLooks := .later }
def LexisRemarksCardSaid : Prop := Claim7.holds Tryd.pinned (.plain (OpenSpec.ofChange lexisRemarksSpec)) lexisRemarksCard

/-- THE TIED CARD OF 'veilstonelaw01.LexisPlace'. -/
def lexisPlaceCard : Claim7 := { stood := { row := lexisPlaceRow, standIns := [], harness := (true, "318426c4d049a24a09c11c3aadce8c542648c49135d406d02443f6375003c695"), looks := false }, kinds := [], alts := [], laidByText := true, laidKinds := [.data], laidTests := true, laidLooks := .later }
def LexisPlaceCardSaid : Prop := Claim7.holds Tryd.pinned (.plain (OpenSpec.ofChange lexisPlaceSpec)) lexisPlaceCard

/-- THE TIED CARD OF 'veilstonelaw01.LexisLong'. -/
def lexisLongCard : Claim7 := { stood := { row := lexisLongRow, standIns := [], harness := (true, "318426c4d049a24a09c11c3aadce8c542648c49135d406d02443f6375003c695"), looks := false }, kinds := [], alts := [], laidByText := true, laidKinds := [.data], laidTests := true, laidLooks := .later }
def LexisLongCardSaid : Prop := Claim7.holds Tryd.pinned (.plain (OpenSpec.ofChange lexisLongSpec)) lexisLongCard

/-- THE SECOND FORM's CARD OF 'veilstonelaw01.LexisTokens'. -/
def lexisTokensUptoCard : Claim7 := { stood := { row := lexisTokensUptoRow, standIns := [], harness := (true, "318426c4d049a24a09c11c3aadce8c542648c49135d406d02443f6375003c695"), looks := false }, kinds := [], alts := [], laidByText := true, laidKinds := [.data], laidTests := true, laidLooks := .later }
def LexisTokensUptoCardSaid : Prop := Claim7.holds Tryd.pinned (.plain (OpenSpec.upto lexisTokensSpec)) lexisTokensUptoCard

/-- THE SECOND FORM's CARD OF 'veilstonelaw01.LexisJoins'. -/
def lexisJoinsUptoCard : Claim7 := { stood := { row := lexisJoinsUptoRow, standIns := [], harness := (true, "318426c4d049a24a09c11c3aadce8c542648c49135d406d02443f6375003c695"), looks := false }, kinds := [], alts := [], laidByText := true, laidKinds := [.data], laidTests := true, laidLooks := .later }
def LexisJoinsUptoCardSaid : Prop := Claim7.holds Tryd.pinned (.plain (OpenSpec.upto lexisJoinsSpec)) lexisJoinsUptoCard

/-- THE SECOND FORM's CARD OF 'veilstonelaw01.LexisBack'. -/
def lexisBackUptoCard : Claim7 := { stood := { row := lexisBackUptoRow, standIns := [], harness := (true, "318426c4d049a24a09c11c3aadce8c542648c49135d406d02443f6375003c695"), looks := false }, kinds := [], alts := [], laidByText := true, laidKinds := [.data], laidTests := true, laidLooks := .later }
def LexisBackUptoCardSaid : Prop := Claim7.holds Tryd.pinned (.plain (OpenSpec.upto lexisBackSpec)) lexisBackUptoCard

/-- THE SECOND FORM's CARD OF 'veilstonelaw01.LexisAgain'. -/
def lexisAgainUptoCard : Claim7 := { stood := { row := lexisAgainUptoRow, standIns := [], harness := (true, "318426c4d049a24a09c11c3aadce8c542648c49135d406d02443f6375003c695"), looks := false }, kinds := [], alts := [], laidByText := true, laidKinds := [.data], laidTests := true, laidLooks := .later }
def LexisAgainUptoCardSaid : Prop := Claim7.holds Tryd.pinned (.plain (OpenSpec.upto lexisAgainSpec)) lexisAgainUptoCard

/-- THE SECOND FORM's CARD OF 'veilstonelaw01.LexisPlaces'. -/
def lexisPlacesUptoCard : Claim7 := { stood := { row := lexisPlacesUptoRow, standIns := [], harness := (true, "318426c4d049a24a09c11c3aadce8c542648c49135d406d02443f6375003c695"), looks := false }, kinds := [], alts := [], laidByText := true, laidKinds := [.data], laidTests := true, laidLooks := .later }
def LexisPlacesUptoCardSaid : Prop := Claim7.holds Tryd.pinned (.plain (OpenSpec.upto lexisPlacesSpec)) lexisPlacesUptoCard

/-- THE SECOND FORM's CARD OF 'veilstonelaw01.LexisRemarks'. -/
def lexisRemarksUptoCard : Claim7 := { stood := { row := lexisRemarksUptoRow, standIns := [], harness := (true, "318426c4d049a24a09c11c3aadce8c542648c49135d406d02443f6375003c695"), looks := false }, kinds := [], alts := [], laidByText := true, laidKinds := [.data], laidTests := true, laidLooks := .later }
def LexisRemarksUptoCardSaid : Prop := Claim7.holds Tryd.pinned (.plain (OpenSpec.upto lexisRemarksSpec)) lexisRemarksUptoCard

/-- THE SECOND FORM's CARD OF 'veilstonelaw01.LexisPlace'. -/
def lexisPlaceUptoCard : Claim7 := { stood := { row := lexisPlaceUptoRow, standIns := [], harness := (true, "318426c4d049a24a09c11c3aadce8c542648c49135d406d02443f6375003c695"), looks := false }, kinds := [], alts := [], laidByText := true, laidKinds := [.data], laidTests := true, laidLooks := .later }
def LexisPlaceUptoCardSaid : Prop := Claim7.holds Tryd.pinned (.plain (OpenSpec.upto lexisPlaceSpec)) lexisPlaceUptoCard

/-- THE SECOND FORM's CARD OF 'veilstonelaw01.LexisLong'. -/
def lexisLongUptoCard : Claim7 := { stood := { row := lexisLongUptoRow, standIns := [], harness := (true, "318426c4d049a24a09c11c3aadce8c542648c49135d406d02443f6375003c695"), looks := false }, kinds := [], alts := [], laidByText := true, laidKinds := [.data], laidTests := true, laidLooks := .later }
def LexisLongUptoCardSaid : Prop := Claim7.holds Tryd.pinned (.plain (OpenSpec.upto lexisLongSpec)) lexisLongUptoCard
end Rows
end Go.Proofs.YtmlkfglnnepjjaaDoor
