/-
  DERIVED. GIVEN WITH THE SEED: THE CARDS: each row of YtinkpeliinofoaaDoorRows.lean that lists a variable, with what it lists TIED to the program's text (the seventh form; the later family's looks); each row that meets fmt, with fmt's text TOLD by the authors' own Lean function (tested against real Go, not proved from fmt's source: count such statements apart). THE CARD IS WHAT COUNTS. Prove the row's statement (the work); the ties are given (YtinkpeliinofoaaDoorTie.lean); close each card by the builder's one call (the guide's Derived/Test/ToyasCard.lean, 'card_holds'). Laid BY PROGRAM, IN A SANDBOX (cutbox-door.mjs). By AI agents, Wed Nov 11 2026. No macro, syntax, notation, axiom, sorry.
-/
import Derived.Test.YtinkpeliinofoaaDoorRows
import GoSem.ClaimSeven
namespace Go.Proofs.YtinkpeliinofoaaDoor
namespace Rows

/-- THE TIED CARD OF 'carfaxlaw07.SippMore'. -/
def sippMoreCard : Claim7 := { stood := { row := sippMoreRow, standIns := [], harness := (true, "6fef986468d088a6ef2e879dc24886699df2f0b6d3c7bf1ca15c22b4e36ae9f5"), looks := false }, kinds := [], alts := [], laidByText := true, laidKinds := [.data, .pinned], laidTests := true, laidLooks := .later }
def SippMoreCardSaid : Prop := Claim7.holds Tryd.pinned (.plain (OpenSpec.ofChange sippMoreSpec)) sippMoreCard

/-- THE TIED CARD OF 'carfaxlaw07.SippNil'. -/
def sippNilCard : Claim7 := { stood := { row := sippNilRow, standIns := [], harness := (true, "6fef986468d088a6ef2e879dc24886699df2f0b6d3c7bf1ca15c22b4e36ae9f5"), looks := false }, kinds := [], alts := [], laidByText := true, laidKinds := [.data, .pinned], laidTests := true, laidLooks := .later }
def SippNilCardSaid : Prop := Claim7.holds Tryd.pinned (.plain (OpenSpec.ofChange sippNilSpec)) sippNilCard

/-- THE TIED CARD OF 'carfaxtop.TopFree'. -/
def topFreeCard : Claim7 := { stood := { row := topFreeRow, standIns := [], harness := (true, "6fef986468d088a6ef2e879dc24886699df2f0b6d3c7bf1ca15c22b4e36ae9f5"), looks := false }, kinds := [], alts := [], laidByText := true, laidKinds := [.data, .pinned], laidTests := true, laidLooks := .later }
def TopFreeCardSaid : Prop := Claim7.holds Tryd.pinned (.plain (OpenSpec.ofChange topFreeSpec)) topFreeCard

/-- THE SECOND FORM's CARD OF 'carfaxlaw07.SippMore'. -/
def sippMoreUptoCard : Claim7 := { stood := { row := sippMoreUptoRow, standIns := [], harness := (true, "6fef986468d088a6ef2e879dc24886699df2f0b6d3c7bf1ca15c22b4e36ae9f5"), looks := false }, kinds := [], alts := [], laidByText := true, laidKinds := [.data, .pinned], laidTests := true, laidLooks := .later }
def SippMoreUptoCardSaid : Prop := Claim7.holds Tryd.pinned (.plain (OpenSpec.upto sippMoreSpec)) sippMoreUptoCard

/-- THE SECOND FORM's CARD OF 'carfaxlaw07.SippNil'. -/
def sippNilUptoCard : Claim7 := { stood := { row := sippNilUptoRow, standIns := [], harness := (true, "6fef986468d088a6ef2e879dc24886699df2f0b6d3c7bf1ca15c22b4e36ae9f5"), looks := false }, kinds := [], alts := [], laidByText := true, laidKinds := [.data, .pinned], laidTests := true, laidLooks := .later }
def SippNilUptoCardSaid : Prop := Claim7.holds Tryd.pinned (.plain (OpenSpec.upto sippNilSpec)) sippNilUptoCard

/-- THE SECOND FORM's CARD OF 'carfaxtop.TopFree'. -/
def topFreeUptoCard : Claim7 := { stood := { row := topFreeUptoRow, standIns := [], harness := (true, "6fef986468d088a6ef2e879dc24886699df2f0b6d3c7bf1ca15c22b4e36ae9f5"), looks := false }, kinds := [], alts := [], laidByText := true, laidKinds := [.data, .pinned], laidTests := true, laidLooks := .later }
def TopFreeUptoCardSaid : Prop := Claim7.holds Tryd.pinned (.plain (OpenSpec.upto topFreeSpec)) topFreeUptoCard
end Rows
end Go.Proofs.YtinkpeliinofoaaDoor
