/-
  DERIVED. GIVEN WITH THE SEED: THE CARDS: each row of YtebpoabflcngoaaGreatDoorRows.lean that lists a variable, with what it lists TIED to the program's text (the seventh form; the later family's looks); each row that meets fmt, with fmt's text TOLD by the authors' own Lean function (tested against real Go, not proved from fmt's source: count such statements apart). THE CARD IS WHAT COUNTS. Prove the row's statement (the work); the ties are given (YtebpoabflcngoaaGreatDoorTie.lean); close each card by the builder's one call (the guide's Derived/Test/ToyasCard.lean, 'card_holds'). Laid BY PROGRAM, IN A SANDBOX (cutbox-door.mjs). By AI agents, Wed Nov 11 2026. No macro, syntax, notation, axiom, sorry.
-/
import Derived.Test.YtebpoabflcngoaaGreatDoorRows
import GoSem.ClaimSeven
namespace Go.Proofs.YtebpoabflcngoaaGreatDoor
namespace Rows

/-- THE TIED CARD OF 'gridmarketlaw04.NumtextFormats'. -/
def numtextFormatsCard : Claim7 := { stood := { row := numtextFormatsRow, standIns := [], harness := (true, "7e7a7369fb20b6d1166c29e9a545177c1596e3c9f9bdef50be043f4d5d4d2a57"), looks := false }, kinds := [], alts := [], laidByText := true, laidKinds := [.data, .data, .data, .data, .pinned], laidTests := true, laidLooks := .later }
def NumtextFormatsCardSaid : Prop := Claim7.holds Tryz.pinned (.plain (OpenSpec.ofChange numtextFormatsSpec)) numtextFormatsCard

/-- THE TIED CARD OF 'gridmarketlaw04.NumtextDecimals'. -/
def numtextDecimalsCard : Claim7 := { stood := { row := numtextDecimalsRow, standIns := [], harness := (true, "7e7a7369fb20b6d1166c29e9a545177c1596e3c9f9bdef50be043f4d5d4d2a57"), looks := false }, kinds := [], alts := [], laidByText := true, laidKinds := [.data, .data, .data, .data, .pinned], laidTests := true, laidLooks := .later }
def NumtextDecimalsCardSaid : Prop := Claim7.holds Tryz.pinned (.plain (OpenSpec.ofChange numtextDecimalsSpec)) numtextDecimalsCard

/-- THE TIED CARD OF 'gridmarketlaw04.NumtextRoundTrip'. -/
def numtextRoundTripCard : Claim7 := { stood := { row := numtextRoundTripRow, standIns := [], harness := (true, "7e7a7369fb20b6d1166c29e9a545177c1596e3c9f9bdef50be043f4d5d4d2a57"), looks := false }, kinds := [], alts := [], laidByText := true, laidKinds := [.data, .data, .data, .data, .pinned], laidTests := true, laidLooks := .later }
def NumtextRoundTripCardSaid : Prop := Claim7.holds Tryz.pinned (.plain (OpenSpec.ofChange numtextRoundTripSpec)) numtextRoundTripCard

/-- THE TIED CARD OF 'gridmarketlaw04.NumtextExact'. -/
def numtextExactCard : Claim7 := { stood := { row := numtextExactRow, standIns := [], harness := (true, "7e7a7369fb20b6d1166c29e9a545177c1596e3c9f9bdef50be043f4d5d4d2a57"), looks := false }, kinds := [], alts := [], laidByText := true, laidKinds := [.data, .data, .data, .data, .pinned], laidTests := true, laidLooks := .later }
def NumtextExactCardSaid : Prop := Claim7.holds Tryz.pinned (.plain (OpenSpec.ofChange numtextExactSpec)) numtextExactCard

/-- THE TIED CARD OF 'gridmarketlaw04.NumtextNative'. -/
def numtextNativeCard : Claim7 := { stood := { row := numtextNativeRow, standIns := [], harness := (true, "7e7a7369fb20b6d1166c29e9a545177c1596e3c9f9bdef50be043f4d5d4d2a57"), looks := false }, kinds := [], alts := [], laidByText := true, laidKinds := [.data, .data, .data, .data, .pinned], laidTests := true, laidLooks := .later }
def NumtextNativeCardSaid : Prop := Claim7.holds Tryz.pinned (.plain (OpenSpec.ofChange numtextNativeSpec)) numtextNativeCard

/-- THE SECOND FORM's CARD OF 'gridmarketlaw04.NumtextFormats'. -/
def numtextFormatsUptoCard : Claim7 := { stood := { row := numtextFormatsUptoRow, standIns := [], harness := (true, "7e7a7369fb20b6d1166c29e9a545177c1596e3c9f9bdef50be043f4d5d4d2a57"), looks := false }, kinds := [], alts := [], laidByText := true, laidKinds := [.data, .data, .data, .data, .pinned], laidTests := true, laidLooks := .later }
def NumtextFormatsUptoCardSaid : Prop := Claim7.holds Tryz.pinned (.plain (OpenSpec.upto numtextFormatsSpec)) numtextFormatsUptoCard

/-- THE SECOND FORM's CARD OF 'gridmarketlaw04.NumtextDecimals'. -/
def numtextDecimalsUptoCard : Claim7 := { stood := { row := numtextDecimalsUptoRow, standIns := [], harness := (true, "7e7a7369fb20b6d1166c29e9a545177c1596e3c9f9bdef50be043f4d5d4d2a57"), looks := false }, kinds := [], alts := [], laidByText := true, laidKinds := [.data, .data, .data, .data, .pinned], laidTests := true, laidLooks := .later }
def NumtextDecimalsUptoCardSaid : Prop := Claim7.holds Tryz.pinned (.plain (OpenSpec.upto numtextDecimalsSpec)) numtextDecimalsUptoCard

/-- THE SECOND FORM's CARD OF 'gridmarketlaw04.NumtextRoundTrip'. -/
def numtextRoundTripUptoCard : Claim7 := { stood := { row := numtextRoundTripUptoRow, standIns := [], harness := (true, "7e7a7369fb20b6d1166c29e9a545177c1596e3c9f9bdef50be043f4d5d4d2a57"), looks := false }, kinds := [], alts := [], laidByText := true, laidKinds := [.data, .data, .data, .data, .pinned], laidTests := true, laidLooks := .later }
def NumtextRoundTripUptoCardSaid : Prop := Claim7.holds Tryz.pinned (.plain (OpenSpec.upto numtextRoundTripSpec)) numtextRoundTripUptoCard

/-- THE SECOND FORM's CARD OF 'gridmarketlaw04.NumtextExact'. -/
def numtextExactUptoCard : Claim7 := { stood := { row := numtextExactUptoRow, standIns := [], harness := (true, "7e7a7369fb20b6d1166c29e9a545177c1596e3c9f9bdef50be043f4d5d4d2a57"), looks := false }, kinds := [], alts := [], laidByText := true, laidKinds := [.data, .data, .data, .data, .pinned], laidTests := true, laidLooks := .later }
def NumtextExactUptoCardSaid : Prop := Claim7.holds Tryz.pinned (.plain (OpenSpec.upto numtextExactSpec)) numtextExactUptoCard

/-- THE SECOND FORM's CARD OF 'gridmarketlaw04.NumtextNative'. -/
def numtextNativeUptoCard : Claim7 := { stood := { row := numtextNativeUptoRow, standIns := [], harness := (true, "7e7a7369fb20b6d1166c29e9a545177c1596e3c9f9bdef50be043f4d5d4d2a57"), looks := false }, kinds := [], alts := [], laidByText := true, laidKinds := [.data, .data, .data, .data, .pinned], laidTests := true, laidLooks := .later }
def NumtextNativeUptoCardSaid : Prop := Claim7.holds Tryz.pinned (.plain (OpenSpec.upto numtextNativeSpec)) numtextNativeUptoCard
end Rows
end Go.Proofs.YtebpoabflcngoaaGreatDoor
