/-
  DERIVED. GIVEN WITH THE SEED: THE CARDS: each row of YtokjnmgbgflgnaaGreatDoorRows.lean that lists a variable, with what it lists TIED to the program's text (the seventh form; the later family's looks); each row that meets fmt, with fmt's text TOLD by the authors' own Lean function (tested against real Go, not proved from fmt's source: count such statements apart). THE CARD IS WHAT COUNTS. Prove the row's statement (the work); the ties are given (YtokjnmgbgflgnaaGreatDoorTie.lean); close each card by the builder's one call (the guide's Derived/Test/ToyasCard.lean, 'card_holds'). Laid BY PROGRAM, IN A SANDBOX (cutbox-door.mjs). By AI agents, Wed Nov 11 2026. No macro, syntax, notation, axiom, sorry.
-/
import Derived.Test.YtokjnmgbgflgnaaGreatDoorRows
import GoSem.ClaimSeven
namespace Go.Proofs.YtokjnmgbgflgnaaGreatDoor
namespace Rows

/-- THE TIED CARD OF 'carfaxlaw10.TripMakes'. -/
def tripMakesCard : Claim7 := { stood := { row := tripMakesRow, standIns := [], harness := (true, "7ea31357fa4cd76354641c610f3465d9335c5de823838b47c8032529a02f1ae0"), looks := false }, kinds := [], alts := [], laidByText := true, laidKinds := [.data, .pinned], laidTests := true, laidLooks := .later }
def TripMakesCardSaid : Prop := Claim7.holds Tryz.pinned (.plain (OpenSpec.ofChange tripMakesSpec)) tripMakesCard

/-- THE TIED CARD OF 'carfaxlaw10.TripRights'. -/
def tripRightsCard : Claim7 := { stood := { row := tripRightsRow, standIns := [], harness := (true, "7ea31357fa4cd76354641c610f3465d9335c5de823838b47c8032529a02f1ae0"), looks := false }, kinds := [], alts := [], laidByText := true, laidKinds := [.data, .pinned], laidTests := true, laidLooks := .later }
def TripRightsCardSaid : Prop := Claim7.holds Tryz.pinned (.plain (OpenSpec.ofChange tripRightsSpec)) tripRightsCard

/-- THE TIED CARD OF 'carfaxlaw10.TripLong'. -/
def tripLongCard : Claim7 := { stood := { row := tripLongRow, standIns := [], harness := (true, "7ea31357fa4cd76354641c610f3465d9335c5de823838b47c8032529a02f1ae0"), looks := false }, kinds := [], alts := [], laidByText := true, laidKinds := [.data, .pinned], laidTests := true, laidLooks := .later }
def TripLongCardSaid : Prop := Claim7.holds Tryz.pinned (.plain (OpenSpec.ofChange tripLongSpec)) tripLongCard

/-- THE TIED CARD OF 'carfaxlaw10.TripRight'. -/
def tripRightCard : Claim7 := { stood := { row := tripRightRow, standIns := [], harness := (true, "7ea31357fa4cd76354641c610f3465d9335c5de823838b47c8032529a02f1ae0"), looks := false }, kinds := [], alts := [], laidByText := true, laidKinds := [.data, .pinned], laidTests := true, laidLooks := .later }
def TripRightCardSaid : Prop := Claim7.holds Tryz.pinned (.plain (OpenSpec.ofChange tripRightSpec)) tripRightCard

/-- THE TIED CARD OF 'carfaxlaw10.TripLeft'. -/
def tripLeftCard : Claim7 := { stood := { row := tripLeftRow, standIns := [], harness := (true, "7ea31357fa4cd76354641c610f3465d9335c5de823838b47c8032529a02f1ae0"), looks := false }, kinds := [], alts := [], laidByText := true, laidKinds := [.data, .pinned], laidTests := true, laidLooks := .later }
def TripLeftCardSaid : Prop := Claim7.holds Tryz.pinned (.plain (OpenSpec.ofChange tripLeftSpec)) tripLeftCard

/-- THE TIED CARD OF 'carfaxlaw10.TripGoes'. -/
def tripGoesCard : Claim7 := { stood := { row := tripGoesRow, standIns := [], harness := (true, "7ea31357fa4cd76354641c610f3465d9335c5de823838b47c8032529a02f1ae0"), looks := false }, kinds := [], alts := [], laidByText := true, laidKinds := [.data, .pinned], laidTests := true, laidLooks := .later }
def TripGoesCardSaid : Prop := Claim7.holds Tryz.pinned (.plain (OpenSpec.ofChange tripGoesSpec)) tripGoesCard

/-- THE SECOND FORM's CARD OF 'carfaxlaw10.TripMakes'. -/
def tripMakesUptoCard : Claim7 := { stood := { row := tripMakesUptoRow, standIns := [], harness := (true, "7ea31357fa4cd76354641c610f3465d9335c5de823838b47c8032529a02f1ae0"), looks := false }, kinds := [], alts := [], laidByText := true, laidKinds := [.data, .pinned], laidTests := true, laidLooks := .later }
def TripMakesUptoCardSaid : Prop := Claim7.holds Tryz.pinned (.plain (OpenSpec.upto tripMakesSpec)) tripMakesUptoCard

/-- THE SECOND FORM's CARD OF 'carfaxlaw10.TripRights'. -/
def tripRightsUptoCard : Claim7 := { stood := { row := tripRightsUptoRow, standIns := [], harness := (true, "7ea31357fa4cd76354641c610f3465d9335c5de823838b47c8032529a02f1ae0"), looks := false }, kinds := [], alts := [], laidByText := true, laidKinds := [.data, .pinned], laidTests := true, laidLooks := .later }
def TripRightsUptoCardSaid : Prop := Claim7.holds Tryz.pinned (.plain (OpenSpec.upto tripRightsSpec)) tripRightsUptoCard

/-- THE SECOND FORM's CARD OF 'carfaxlaw10.TripLong'. -/
def tripLongUptoCard : Claim7 := { stood := { row := tripLongUptoRow, standIns := [], harness := (true, "7ea31357fa4cd76354641c610f3465d9335c5de823838b47c8032529a02f1ae0"), looks := false }, kinds := [], alts := [], laidByText := true, laidKinds := [.data, .pinned], laidTests := true, laidLooks := .later }
def TripLongUptoCardSaid : Prop := Claim7.holds Tryz.pinned (.plain (OpenSpec.upto tripLongSpec)) tripLongUptoCard

/-- THE SECOND FORM's CARD OF 'carfaxlaw10.TripRight'. -/
def tripRightUptoCard : Claim7 := { stood := { row := tripRightUptoRow, standIns := [], harness := (true, "7ea31357fa4cd76354641c610f3465d9335c5de823838b47c8032529a02f1ae0"), looks := false }, kinds := [], alts := [], laidByText := true, laidKinds := [.data, .pinned], laidTests := true, laidLooks := .later }
def TripRightUptoCardSaid : Prop := Claim7.holds Tryz.pinned (.plain (OpenSpec.upto tripRightSpec)) tripRightUptoCard

/-- THE SECOND FORM's CARD OF 'carfaxlaw10.TripLeft'. -/
def tripLeftUptoCard : Claim7 := { stood := { row := tripLeftUptoRow, standIns := [], harness := (true, "7ea31357fa4cd76354641c610f3465d9335c5de823838b47c8032529a02f1ae0"), looks := false }, kinds := [], alts := [], laidByText := true, laidKinds := [.data, .pinned], laidTests := true, laidLooks := .later }
def TripLeftUptoCardSaid : Prop := Claim7.holds Tryz.pinned (.plain (OpenSpec.upto tripLeftSpec)) tripLeftUptoCard

/-- THE SECOND FORM's CARD OF 'carfaxlaw10.TripGoes'. -/
def tripGoesUptoCard : Claim7 := { stood := { row := tripGoesUptoRow, standIns := [], harness := (true, "7ea31357fa4cd76354641c610f3465d9335c5de823838b47c8032529a02f1ae0"), looks := false }, kinds := [], alts := [], laidByText := true, laidKinds := [.data, .pinned], laidTests := true, laidLooks := .later }
def TripGoesUptoCardSaid : Prop := Claim7.holds Tryz.pinned (.plain (OpenSpec.upto tripGoesSpec)) tripGoesUptoCard
end Rows
end Go.Proofs.YtokjnmgbgflgnaaGreatDoor
