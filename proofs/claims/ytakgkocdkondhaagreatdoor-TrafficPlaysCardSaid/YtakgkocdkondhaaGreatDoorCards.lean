/-
  DERIVED. GIVEN WITH THE SEED: THE CARDS: each row of YtakgkocdkondhaaGreatDoorRows.lean that lists a variable, with what it lists TIED to the program's text (the seventh form; the later family's looks); each row that meets fmt, with fmt's text TOLD by the authors' own Lean function (tested against real Go, not proved from fmt's source: count such statements apart). THE CARD IS WHAT COUNTS. Prove the row's statement (the work); the ties are given (YtakgkocdkondhaaGreatDoorTie.lean); close each card by the builder's one call (the guide's Derived/Test/ToyasCard.lean, 'card_holds'). Laid BY PROGRAM, IN A SANDBOX (cutbox-door.mjs). By AI agents, Wed Nov 11 2026. No macro, syntax, notation, axiom, sorry.
-/
import Derived.Test.YtakgkocdkondhaaGreatDoorRows
import GoSem.ClaimSeven
namespace Go.Proofs.YtakgkocdkondhaaGreatDoor
namespace Rows

/-- THE TIED CARD OF 'carfaxlaw11.TrafficPlays'. -/
def trafficPlaysCard : Claim7 := { stood := { row := trafficPlaysRow, standIns := [], harness := (true, "0235b261cd50ddd59093d5d7c9d751f13dc49992ff3bcfa0603a0b69a323efc9"), looks := false }, kinds := [], alts := [], laidByText := true, laidKinds := [.data, .pinned], laidTests := true, laidLooks := .later }
def TrafficPlaysCardSaid : Prop := Claim7.holds Tryz.pinned (.plain (OpenSpec.ofChange trafficPlaysSpec)) trafficPlaysCard

/-- THE TIED CARD OF 'carfaxlaw11.TrafficSafe'. -/
def trafficSafeCard : Claim7 := { stood := { row := trafficSafeRow, standIns := [], harness := (true, "0235b261cd50ddd59093d5d7c9d751f13dc49992ff3bcfa0603a0b69a323efc9"), looks := false }, kinds := [], alts := [], laidByText := true, laidKinds := [.data, .pinned], laidTests := true, laidLooks := .later }
def TrafficSafeCardSaid : Prop := Claim7.holds Tryz.pinned (.plain (OpenSpec.ofChange trafficSafeSpec)) trafficSafeCard

/-- THE TIED CARD OF 'carfaxlaw11.TrafficApart'. -/
def trafficApartCard : Claim7 := { stood := { row := trafficApartRow, standIns := [], harness := (true, "0235b261cd50ddd59093d5d7c9d751f13dc49992ff3bcfa0603a0b69a323efc9"), looks := false }, kinds := [], alts := [], laidByText := true, laidKinds := [.data, .pinned], laidTests := true, laidLooks := .later }
def TrafficApartCardSaid : Prop := Claim7.holds Tryz.pinned (.plain (OpenSpec.ofChange trafficApartSpec)) trafficApartCard

/-- THE TIED CARD OF 'carfaxlaw11.TrafficHome'. -/
def trafficHomeCard : Claim7 := { stood := { row := trafficHomeRow, standIns := [], harness := (true, "0235b261cd50ddd59093d5d7c9d751f13dc49992ff3bcfa0603a0b69a323efc9"), looks := false }, kinds := [], alts := [], laidByText := true, laidKinds := [.data, .pinned], laidTests := true, laidLooks := .later }
def TrafficHomeCardSaid : Prop := Claim7.holds Tryz.pinned (.plain (OpenSpec.ofChange trafficHomeSpec)) trafficHomeCard

/-- THE TIED CARD OF 'carfaxlaw11.TrafficOne'. -/
def trafficOneCard : Claim7 := { stood := { row := trafficOneRow, standIns := [], harness := (true, "0235b261cd50ddd59093d5d7c9d751f13dc49992ff3bcfa0603a0b69a323efc9"), looks := false }, kinds := [], alts := [], laidByText := true, laidKinds := [.data, .pinned], laidTests := true, laidLooks := .later }
def TrafficOneCardSaid : Prop := Claim7.holds Tryz.pinned (.plain (OpenSpec.ofChange trafficOneSpec)) trafficOneCard

/-- THE TIED CARD OF 'carfaxlaw11.TrafficNil'. -/
def trafficNilCard : Claim7 := { stood := { row := trafficNilRow, standIns := [], harness := (true, "0235b261cd50ddd59093d5d7c9d751f13dc49992ff3bcfa0603a0b69a323efc9"), looks := false }, kinds := [], alts := [], laidByText := true, laidKinds := [.data, .pinned], laidTests := true, laidLooks := .later }
def TrafficNilCardSaid : Prop := Claim7.holds Tryz.pinned (.plain (OpenSpec.ofChange trafficNilSpec)) trafficNilCard

/-- THE TIED CARD OF 'carfaxlaw11.TrafficWaits'. -/
def trafficWaitsCard : Claim7 := { stood := { row := trafficWaitsRow, standIns := [], harness := (true, "0235b261cd50ddd59093d5d7c9d751f13dc49992ff3bcfa0603a0b69a323efc9"), looks := false }, kinds := [], alts := [], laidByText := true, laidKinds := [.data, .pinned], laidTests := true, laidLooks := .later }
def TrafficWaitsCardSaid : Prop := Claim7.holds Tryz.pinned (.plain (OpenSpec.ofChange trafficWaitsSpec)) trafficWaitsCard

/-- THE SECOND FORM's CARD OF 'carfaxlaw11.TrafficPlays'. -/
def trafficPlaysUptoCard : Claim7 := { stood := { row := trafficPlaysUptoRow, standIns := [], harness := (true, "0235b261cd50ddd59093d5d7c9d751f13dc49992ff3bcfa0603a0b69a323efc9"), looks := false }, kinds := [], alts := [], laidByText := true, laidKinds := [.data, .pinned], laidTests := true, laidLooks := .later }
def TrafficPlaysUptoCardSaid : Prop := Claim7.holds Tryz.pinned (.plain (OpenSpec.upto trafficPlaysSpec)) trafficPlaysUptoCard

/-- THE SECOND FORM's CARD OF 'carfaxlaw11.TrafficSafe'. -/
def trafficSafeUptoCard : Claim7 := { stood := { row := trafficSafeUptoRow, standIns := [], harness := (true, "0235b261cd50ddd59093d5d7c9d751f13dc49992ff3bcfa0603a0b69a323efc9"), looks := false }, kinds := [], alts := [], laidByText := true, laidKinds := [.data, .pinned], laidTests := true, laidLooks := .later }
def TrafficSafeUptoCardSaid : Prop := Claim7.holds Tryz.pinned (.plain (OpenSpec.upto trafficSafeSpec)) trafficSafeUptoCard

/-- THE SECOND FORM's CARD OF 'carfaxlaw11.TrafficApart'. -/
def trafficApartUptoCard : Claim7 := { stood := { row := trafficApartUptoRow, standIns := [], harness := (true, "0235b261cd50ddd59093d5d7c9d751f13dc49992ff3bcfa0603a0b69a323efc9"), looks := false }, kinds := [], alts := [], laidByText := true, laidKinds := [.data, .pinned], laidTests := true, laidLooks := .later }
def TrafficApartUptoCardSaid : Prop := Claim7.holds Tryz.pinned (.plain (OpenSpec.upto trafficApartSpec)) trafficApartUptoCard

/-- THE SECOND FORM's CARD OF 'carfaxlaw11.TrafficHome'. -/
def trafficHomeUptoCard : Claim7 := { stood := { row := trafficHomeUptoRow, standIns := [], harness := (true, "0235b261cd50ddd59093d5d7c9d751f13dc49992ff3bcfa0603a0b69a323efc9"), looks := false }, kinds := [], alts := [], laidByText := true, laidKinds := [.data, .pinned], laidTests := true, laidLooks := .later }
def TrafficHomeUptoCardSaid : Prop := Claim7.holds Tryz.pinned (.plain (OpenSpec.upto trafficHomeSpec)) trafficHomeUptoCard

/-- THE SECOND FORM's CARD OF 'carfaxlaw11.TrafficOne'. -/
def trafficOneUptoCard : Claim7 := { stood := { row := trafficOneUptoRow, standIns := [], harness := (true, "0235b261cd50ddd59093d5d7c9d751f13dc49992ff3bcfa0603a0b69a323efc9"), looks := false }, kinds := [], alts := [], laidByText := true, laidKinds := [.data, .pinned], laidTests := true, laidLooks := .later }
def TrafficOneUptoCardSaid : Prop := Claim7.holds Tryz.pinned (.plain (OpenSpec.upto trafficOneSpec)) trafficOneUptoCard

/-- THE SECOND FORM's CARD OF 'carfaxlaw11.TrafficNil'. -/
def trafficNilUptoCard : Claim7 := { stood := { row := trafficNilUptoRow, standIns := [], harness := (true, "0235b261cd50ddd59093d5d7c9d751f13dc49992ff3bcfa0603a0b69a323efc9"), looks := false }, kinds := [], alts := [], laidByText := true, laidKinds := [.data, .pinned], laidTests := true, laidLooks := .later }
def TrafficNilUptoCardSaid : Prop := Claim7.holds Tryz.pinned (.plain (OpenSpec.upto trafficNilSpec)) trafficNilUptoCard

/-- THE SECOND FORM's CARD OF 'carfaxlaw11.TrafficWaits'. -/
def trafficWaitsUptoCard : Claim7 := { stood := { row := trafficWaitsUptoRow, standIns := [], harness := (true, "0235b261cd50ddd59093d5d7c9d751f13dc49992ff3bcfa0603a0b69a323efc9"), looks := false }, kinds := [], alts := [], laidByText := true, laidKinds := [.data, .pinned], laidTests := true, laidLooks := .later }
def TrafficWaitsUptoCardSaid : Prop := Claim7.holds Tryz.pinned (.plain (OpenSpec.upto trafficWaitsSpec)) trafficWaitsUptoCard
end Rows
end Go.Proofs.YtakgkocdkondhaaGreatDoor
