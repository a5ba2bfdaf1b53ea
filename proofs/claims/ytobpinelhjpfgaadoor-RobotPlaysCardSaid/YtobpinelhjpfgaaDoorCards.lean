/-
  DERIVED. GIVEN WITH THE SEED: THE CARDS: each row of YtobpinelhjpfgaaDoorRows.lean that lists a variable, with what it lists TIED to the program's text (the seventh form; the later family's looks); each row that meets fmt, with fmt's text TOLD by the authors' own Lean function (tested against real Go, not proved from fmt's source: count such statements apart). THE CARD IS WHAT COUNTS. Prove the row's statement (the work); the ties are given (YtobpinelhjpfgaaDoorTie.lean); close each card by the builder's one call (the guide's Derived/Test/ToyasCard.lean, 'card_holds'). Laid BY PROGRAM, IN A SANDBOX (cutbox-door.mjs). By AI agents, Wed Nov 11 2026. No macro, syntax, notation, axiom, sorry.
-/
import Derived.Test.YtobpinelhjpfgaaDoorRows
import GoSem.ClaimSeven
namespace Go.Proofs.YtobpinelhjpfgaaDoor
namespace Rows

/-- THE TIED CARD OF 'carfaxlaw18.RobotPlays'. -/
def robotPlaysCard : Claim7 := { stood := { row := robotPlaysRow, standIns := [], harness := (true, "c0db27427738899200a0ed950934d0064ae4805b9f9f7b4836499a64c1fc26e6"), looks := false }, kinds := [], alts := [], laidByText := true, laidKinds := [.data], laidTests := true, laidLooks := .later }
def RobotPlaysCardSaid : Prop := Claim7.holds Tryd.pinned (.plain (OpenSpec.ofChange robotPlaysSpec)) robotPlaysCard

/-- THE TIED CARD OF 'carfaxlaw18.RobotOnce'. -/
def robotOnceCard : Claim7 := { stood := { row := robotOnceRow, standIns := [], harness := (true, "c0db27427738899200a0ed950934d0064ae4805b9f9f7b4836499a64c1fc26e6"), looks := false }, kinds := [], alts := [], laidByText := true, laidKinds := [.data], laidTests := true, laidLooks := .later }
def RobotOnceCardSaid : Prop := Claim7.holds Tryd.pinned (.plain (OpenSpec.ofChange robotOnceSpec)) robotOnceCard

/-- THE TIED CARD OF 'carfaxlaw18.RobotCharge'. -/
def robotChargeCard : Claim7 := { stood := { row := robotChargeRow, standIns := [], harness := (true, "c0db27427738899200a0ed950934d0064ae4805b9f9f7b4836499a64c1fc26e6"), looks := false }, kinds := [], alts := [], laidByText := true, laidKinds := [.data], laidTests := true, laidLooks := .later }
def RobotChargeCardSaid : Prop := Claim7.holds Tryd.pinned (.plain (OpenSpec.ofChange robotChargeSpec)) robotChargeCard

/-- THE TIED CARD OF 'carfaxlaw18.RobotNil'. -/
def robotNilCard : Claim7 := { stood := { row := robotNilRow, standIns := [], harness := (true, "c0db27427738899200a0ed950934d0064ae4805b9f9f7b4836499a64c1fc26e6"), looks := false }, kinds := [], alts := [], laidByText := true, laidKinds := [.data], laidTests := true, laidLooks := .later }
def RobotNilCardSaid : Prop := Claim7.holds Tryd.pinned (.plain (OpenSpec.ofChange robotNilSpec)) robotNilCard

/-- THE TIED CARD OF 'carfaxlaw18.RobotStays'. -/
def robotStaysCard : Claim7 := { stood := { row := robotStaysRow, standIns := [], harness := (true, "c0db27427738899200a0ed950934d0064ae4805b9f9f7b4836499a64c1fc26e6"), looks := false }, kinds := [], alts := [], laidByText := true, laidKinds := [.data], laidTests := true, laidLooks := .later }
def RobotStaysCardSaid : Prop := Claim7.holds Tryd.pinned (.plain (OpenSpec.ofChange robotStaysSpec)) robotStaysCard

/-- THE TIED CARD OF 'carfaxtop.TopTold'. -/
def topToldCard : Claim7 := { stood := { row := topToldRow, standIns := [], harness := (true, "c0db27427738899200a0ed950934d0064ae4805b9f9f7b4836499a64c1fc26e6"), looks := false }, kinds := [], alts := [], laidByText := true, laidKinds := [.data], laidTests := true, laidLooks := .later }
def TopToldCardSaid : Prop := Claim7.holds Tryd.pinned (.plain (OpenSpec.ofChange topToldSpec)) topToldCard

/-- THE SECOND FORM's CARD OF 'carfaxlaw18.RobotPlays'. -/
def robotPlaysUptoCard : Claim7 := { stood := { row := robotPlaysUptoRow, standIns := [], harness := (true, "c0db27427738899200a0ed950934d0064ae4805b9f9f7b4836499a64c1fc26e6"), looks := false }, kinds := [], alts := [], laidByText := true, laidKinds := [.data], laidTests := true, laidLooks := .later }
def RobotPlaysUptoCardSaid : Prop := Claim7.holds Tryd.pinned (.plain (OpenSpec.upto robotPlaysSpec)) robotPlaysUptoCard

/-- THE SECOND FORM's CARD OF 'carfaxlaw18.RobotOnce'. -/
def robotOnceUptoCard : Claim7 := { stood := { row := robotOnceUptoRow, standIns := [], harness := (true, "c0db27427738899200a0ed950934d0064ae4805b9f9f7b4836499a64c1fc26e6"), looks := false }, kinds := [], alts := [], laidByText := true, laidKinds := [.data], laidTests := true, laidLooks := .later }
def RobotOnceUptoCardSaid : Prop := Claim7.holds Tryd.pinned (.plain (OpenSpec.upto robotOnceSpec)) robotOnceUptoCard

/-- THE SECOND FORM's CARD OF 'carfaxlaw18.RobotCharge'. -/
def robotChargeUptoCard : Claim7 := { stood := { row := robotChargeUptoRow, standIns := [], harness := (true, "c0db27427738899200a0ed950934d0064ae4805b9f9f7b4836499a64c1fc26e6"), looks := false }, kinds := [], alts := [], laidByText := true, laidKinds := [.data], laidTests := true, laidLooks := .later }
def RobotChargeUptoCardSaid : Prop := Claim7.holds Tryd.pinned (.plain (OpenSpec.upto robotChargeSpec)) robotChargeUptoCard

/-- THE SECOND FORM's CARD OF 'carfaxlaw18.RobotNil'. -/
def robotNilUptoCard : Claim7 := { stood := { row := robotNilUptoRow, standIns := [], harness := (true, "c0db27427738899200a0ed950934d0064ae4805b9f9f7b4836499a64c1fc26e6"), looks := false }, kinds := [], alts := [], laidByText := true, laidKinds := [.data], laidTests := true, laidLooks := .later }
def RobotNilUptoCardSaid : Prop := Claim7.holds Tryd.pinned (.plain (OpenSpec.upto robotNilSpec)) robotNilUptoCard

/-- THE SECOND FORM's CARD OF 'carfaxlaw18.RobotStays'. -/
def robotStaysUptoCard : Claim7 := { stood := { row := robotStaysUptoRow, standIns := [], harness := (true, "c0db27427738899200a0ed950934d0064ae4805b9f9f7b4836499a64c1fc26e6"), looks := false }, kinds := [], alts := [], laidByText := true, laidKinds := [.data], laidTests := true, laidLooks := .later }
def RobotStaysUptoCardSaid : Prop := Claim7.holds Tryd.pinned (.plain (OpenSpec.upto robotStaysSpec)) robotStaysUptoCard

/-- THE SECOND FORM's CARD OF 'carfaxtop.TopTold'. -/
def topToldUptoCard : Claim7 := { stood := { row := topToldUptoRow, standIns := [], harness := (true, "c0db27427738899200a0ed950934d0064ae4805b9f9f7b4836499a64c1fc26e6"), looks := false }, kinds := [], alts := [], laidByText := true, laidKinds := [.data], laidTests := true, laidLooks := .later }
def TopToldUptoCardSaid : Prop := Claim7.holds Tryd.pinned (.plain (OpenSpec.upto topToldSpec)) topToldUptoCard
end Rows
end Go.Proofs.YtobpinelhjpfgaaDoor
