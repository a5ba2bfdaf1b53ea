/-
  DERIVED. GIVEN WITH THE SEED: THE CARDS: each row of YtejldeecblppjaaDoorRows.lean that lists a variable, with what it lists TIED to the program's text (the seventh form; the later family's looks); each row that meets fmt, with fmt's text TOLD by the authors' own Lean function (tested against real Go, not proved from fmt's source: count such statements apart). THE CARD IS WHAT COUNTS. Prove the row's statement (the work); the ties are given (YtejldeecblppjaaDoorTie.lean); close each card by the builder's one call (the guide's Derived/Test/ToyasCard.lean, 'card_holds'). Laid BY PROGRAM, IN A SANDBOX (cutbox-door.mjs). By AI agents, Wed Nov 11 2026. No macro, syntax, notation, axiom, sorry.
-/
import Derived.Test.YtejldeecblppjaaDoorRows
import GoSem.ClaimSeven
namespace Go.Proofs.YtejldeecblppjaaDoor
namespace Rows

/-- THE TIED CARD OF 'carfaxlaw17.RecordLays'. -/
def recordLaysCard : Claim7 := { stood := { row := recordLaysRow, standIns := [], harness := (true, "ba3ed6ddd8f89c271aec4beafed174205f94d3daa5fcc5cfce475936c09995bf"), looks := false }, kinds := [], alts := [], laidByText := true, laidKinds := [.data], laidTests := true, laidLooks := .later }
def RecordLaysCardSaid : Prop := Claim7.holds Tryd.pinned (.plain (OpenSpec.ofChange recordLaysSpec)) recordLaysCard

/-- THE TIED CARD OF 'carfaxlaw17.RecordTakes'. -/
def recordTakesCard : Claim7 := { stood := { row := recordTakesRow, standIns := [], harness := (true, "ba3ed6ddd8f89c271aec4beafed174205f94d3daa5fcc5cfce475936c09995bf"), looks := false }, kinds := [], alts := [], laidByText := true, laidKinds := [.data], laidTests := true, laidLooks := .later }
def RecordTakesCardSaid : Prop := Claim7.holds Tryd.pinned (.plain (OpenSpec.ofChange recordTakesSpec)) recordTakesCard

/-- THE TIED CARD OF 'carfaxlaw17.RecordActs'. -/
def recordActsCard : Claim7 := { stood := { row := recordActsRow, standIns := [], harness := (true, "ba3ed6ddd8f89c271aec4beafed174205f94d3daa5fcc5cfce475936c09995bf"), looks := false }, kinds := [], alts := [], laidByText := true, laidKinds := [.data], laidTests := true, laidLooks := .later }
def RecordActsCardSaid : Prop := Claim7.holds Tryd.pinned (.plain (OpenSpec.ofChange recordActsSpec)) recordActsCard

/-- THE TIED CARD OF 'carfaxlaw17.RecordBack'. -/
def recordBackCard : Claim7 := { stood := { row := recordBackRow, standIns := [], harness := (true, "ba3ed6ddd8f89c271aec4beafed174205f94d3daa5fcc5cfce475936c09995bf"), looks := false }, kinds := [], alts := [], laidByText := true, laidKinds := [.data], laidTests := true, laidLooks := .later }
def RecordBackCardSaid : Prop := Claim7.holds Tryd.pinned (.plain (OpenSpec.ofChange recordBackSpec)) recordBackCard

/-- THE TIED CARD OF 'carfaxlaw17.RecordCut'. -/
def recordCutCard : Claim7 := { stood := { row := recordCutRow, standIns := [], harness := (true, "ba3ed6ddd8f89c271aec4beafed174205f94d3daa5fcc5cfce475936c09995bf"), looks := false }, kinds := [], alts := [], laidByText := true, laidKinds := [.data], laidTests := true, laidLooks := .later }
def RecordCutCardSaid : Prop := Claim7.holds Tryd.pinned (.plain (OpenSpec.ofChange recordCutSpec)) recordCutCard

/-- THE TIED CARD OF 'carfaxlaw17.RecordLong'. -/
def recordLongCard : Claim7 := { stood := { row := recordLongRow, standIns := [], harness := (true, "ba3ed6ddd8f89c271aec4beafed174205f94d3daa5fcc5cfce475936c09995bf"), looks := false }, kinds := [], alts := [], laidByText := true, laidKinds := [.data], laidTests := true, laidLooks := .later }
def RecordLongCardSaid : Prop := Claim7.holds Tryd.pinned (.plain (OpenSpec.ofChange recordLongSpec)) recordLongCard

/-- THE TIED CARD OF 'carfaxtop.TopNoted'. -/
def topNotedCard : Claim7 := { stood := { row := topNotedRow, standIns := [], harness := (true, "ba3ed6ddd8f89c271aec4beafed174205f94d3daa5fcc5cfce475936c09995bf"), looks := false }, kinds := [], alts := [], laidByText := true, laidKinds := [.data], laidTests := true, laidLooks := .later }
def TopNotedCardSaid : Prop := Claim7.holds Tryd.pinned (.plain (OpenSpec.ofChange topNotedSpec)) topNotedCard

/-- THE SECOND FORM's CARD OF 'carfaxlaw17.RecordLays'. -/
def recordLaysUptoCard : Claim7 := { stood := { row := recordLaysUptoRow, standIns := [], harness := (true, "ba3ed6ddd8f89c271aec4beafed174205f94d3daa5fcc5cfce475936c09995bf"), looks := false }, kinds := [], alts := [], laidByText := true, laidKinds := [.data], laidTests := true, laidLooks := .later }
def RecordLaysUptoCardSaid : Prop := Claim7.holds Tryd.pinned (.plain (OpenSpec.upto recordLaysSpec)) recordLaysUptoCard

/-- THE SECOND FORM's CARD OF 'carfaxlaw17.RecordTakes'. -/
def recordTakesUptoCard : Claim7 := { stood := { row := recordTakesUptoRow, standIns := [], harness := (true, "ba3ed6ddd8f89c271aec4beafed174205f94d3daa5fcc5cfce475936c09995bf"), looks := false }, kinds := [], alts := [], laidByText := true, laidKinds := [.data], laidTests := true, laidLooks := .later }
def RecordTakesUptoCardSaid : Prop := Claim7.holds Tryd.pinned (.plain (OpenSpec.upto recordTakesSpec)) recordTakesUptoCard

/-- THE SECOND FORM's CARD OF 'carfaxlaw17.RecordActs'. -/
def recordActsUptoCard : Claim7 := { stood := { row := recordActsUptoRow, standIns := [], harness := (true, "ba3ed6ddd8f89c271aec4beafed174205f94d3daa5fcc5cfce475936c09995bf"), looks := false }, kinds := [], alts := [], laidByText := true, laidKinds := [.data], laidTests := true, laidLooks := .later }
def RecordActsUptoCardSaid : Prop := Claim7.holds Tryd.pinned (.plain (OpenSpec.upto recordActsSpec)) recordActsUptoCard

/-- THE SECOND FORM's CARD OF 'carfaxlaw17.RecordBack'. -/
def recordBackUptoCard : Claim7 := { stood := { row := recordBackUptoRow, standIns := [], harness := (true, "ba3ed6ddd8f89c271aec4beafed174205f94d3daa5fcc5cfce475936c09995bf"), looks := false }, kinds := [], alts := [], laidByText := true, laidKinds := [.data], laidTests := true, laidLooks := .later }
def RecordBackUptoCardSaid : Prop := Claim7.holds Tryd.pinned (.plain (OpenSpec.upto recordBackSpec)) recordBackUptoCard

/-- THE SECOND FORM's CARD OF 'carfaxlaw17.RecordCut'. -/
def recordCutUptoCard : Claim7 := { stood := { row := recordCutUptoRow, standIns := [], harness := (true, "ba3ed6ddd8f89c271aec4beafed174205f94d3daa5fcc5cfce475936c09995bf"), looks := false }, kinds := [], alts := [], laidByText := true, laidKinds := [.data], laidTests := true, laidLooks := .later }
def RecordCutUptoCardSaid : Prop := Claim7.holds Tryd.pinned (.plain (OpenSpec.upto recordCutSpec)) recordCutUptoCard

/-- THE SECOND FORM's CARD OF 'carfaxlaw17.RecordLong'. -/
def recordLongUptoCard : Claim7 := { stood := { row := recordLongUptoRow, standIns := [], harness := (true, "ba3ed6ddd8f89c271aec4beafed174205f94d3daa5fcc5cfce475936c09995bf"), looks := false }, kinds := [], alts := [], laidByText := true, laidKinds := [.data], laidTests := true, laidLooks := .later }
def RecordLongUptoCardSaid : Prop := Claim7.holds Tryd.pinned (.plain (OpenSpec.upto recordLongSpec)) recordLongUptoCard

/-- THE SECOND FORM's CARD OF 'carfaxtop.TopNoted'. -/
def topNotedUptoCard : Claim7 := { stood := { row := topNotedUptoRow, standIns := [], harness := (true, "ba3ed6ddd8f89c271aec4beafed174205f94d3daa5fcc5cfce475936c09995bf"), looks := false }, kinds := [], alts := [], laidByText := true, laidKinds := [.data], laidTests := true, laidLooks := .later }
def TopNotedUptoCardSaid : Prop := Claim7.holds Tryd.pinned (.plain (OpenSpec.upto topNotedSpec)) topNotedUptoCard
end Rows
end Go.Proofs.YtejldeecblppjaaDoor
