/-
  DERIVED. GIVEN WITH THE SEED: THE CARDS: each row of YtaioiobimenkfaaDoorRows.lean that lists a variable, with what it lists TIED to the program's text (the seventh form; the later family's looks); each row that meets fmt, with fmt's text TOLD by the authors' own Lean function (tested against real Go, not proved from fmt's source: count such statements apart). THE CARD IS WHAT COUNTS. Prove the row's statement (the work); the ties are given (YtaioiobimenkfaaDoorTie.lean); close each card by the builder's one call (the guide's Derived/Test/ToyasCard.lean, 'card_holds'). Laid BY PROGRAM, IN A SANDBOX (cutbox-door.mjs). By AI agents, Wed Nov 11 2026. No macro, syntax, notation, axiom, sorry.
-/
import Derived.Test.YtaioiobimenkfaaDoorRows
import GoSem.ClaimSeven
namespace Go.Proofs.YtaioiobimenkfaaDoor
namespace Rows

/-- THE TIED CARD OF 'carfaxlaw05.PathDists'. -/
def pathDistsCard : Claim7 := { stood := { row := pathDistsRow, standIns := [], harness := (true, "c2be77a88c11d133ba61acd9f5c9f3e8430b018a9d02cfd3d792cfadf2681c0f"), looks := false }, kinds := [], alts := [], laidByText := true, laidKinds := [.data, .pinned], laidTests := true, laidLooks := .later }
def PathDistsCardSaid : Prop := Claim7.holds Tryd.pinned (.plain (OpenSpec.ofChange pathDistsSpec)) pathDistsCard

/-- THE TIED CARD OF 'carfaxlaw05.PathFinds'. -/
def pathFindsCard : Claim7 := { stood := { row := pathFindsRow, standIns := [], harness := (true, "c2be77a88c11d133ba61acd9f5c9f3e8430b018a9d02cfd3d792cfadf2681c0f"), looks := false }, kinds := [], alts := [], laidByText := true, laidKinds := [.data, .pinned], laidTests := true, laidLooks := .later }
def PathFindsCardSaid : Prop := Claim7.holds Tryd.pinned (.plain (OpenSpec.ofChange pathFindsSpec)) pathFindsCard

/-- THE TIED CARD OF 'carfaxlaw05.PathIs'. -/
def pathIsCard : Claim7 := { stood := { row := pathIsRow, standIns := [], harness := (true, "c2be77a88c11d133ba61acd9f5c9f3e8430b018a9d02cfd3d792cfadf2681c0f"), looks := false }, kinds := [], alts := [], laidByText := true, laidKinds := [.data, .pinned], laidTests := true, laidLooks := .later }
def PathIsCardSaid : Prop := Claim7.holds Tryd.pinned (.plain (OpenSpec.ofChange pathIsSpec)) pathIsCard

/-- THE TIED CARD OF 'carfaxlaw05.PathShort'. -/
def pathShortCard : Claim7 := { stood := { row := pathShortRow, standIns := [], harness := (true, "c2be77a88c11d133ba61acd9f5c9f3e8430b018a9d02cfd3d792cfadf2681c0f"), looks := false }, kinds := [], alts := [], laidByText := true, laidKinds := [.data, .pinned], laidTests := true, laidLooks := .later }
def PathShortCardSaid : Prop := Claim7.holds Tryd.pinned (.plain (OpenSpec.ofChange pathShortSpec)) pathShortCard

/-- THE TIED CARD OF 'carfaxlaw05.PathBlocked'. -/
def pathBlockedCard : Claim7 := { stood := { row := pathBlockedRow, standIns := [], harness := (true, "c2be77a88c11d133ba61acd9f5c9f3e8430b018a9d02cfd3d792cfadf2681c0f"), looks := false }, kinds := [], alts := [], laidByText := true, laidKinds := [.data, .pinned], laidTests := true, laidLooks := .later }
def PathBlockedCardSaid : Prop := Claim7.holds Tryd.pinned (.plain (OpenSpec.ofChange pathBlockedSpec)) pathBlockedCard

/-- THE TIED CARD OF 'carfaxlaw05.PathSteps'. -/
def pathStepsCard : Claim7 := { stood := { row := pathStepsRow, standIns := [], harness := (true, "c2be77a88c11d133ba61acd9f5c9f3e8430b018a9d02cfd3d792cfadf2681c0f"), looks := false }, kinds := [], alts := [], laidByText := true, laidKinds := [.data, .pinned], laidTests := true, laidLooks := .later }
def PathStepsCardSaid : Prop := Claim7.holds Tryd.pinned (.plain (OpenSpec.ofChange pathStepsSpec)) pathStepsCard

/-- THE SECOND FORM's CARD OF 'carfaxlaw05.PathDists'. -/
def pathDistsUptoCard : Claim7 := { stood := { row := pathDistsUptoRow, standIns := [], harness := (true, "c2be77a88c11d133ba61acd9f5c9f3e8430b018a9d02cfd3d792cfadf2681c0f"), looks := false }, kinds := [], alts := [], laidByText := true, laidKinds := [.data, .pinned], laidTests := true, laidLooks := .later }
def PathDistsUptoCardSaid : Prop := Claim7.holds Tryd.pinned (.plain (OpenSpec.upto pathDistsSpec)) pathDistsUptoCard

/-- THE SECOND FORM's CARD OF 'carfaxlaw05.PathFinds'. -/
def pathFindsUptoCard : Claim7 := { stood := { row := pathFindsUptoRow, standIns := [], harness := (true, "c2be77a88c11d133ba61acd9f5c9f3e8430b018a9d02cfd3d792cfadf2681c0f"), looks := false }, kinds := [], alts := [], laidByText := true, laidKinds := [.data, .pinned], laidTests := true, laidLooks := .later }
def PathFindsUptoCardSaid : Prop := Claim7.holds Tryd.pinned (.plain (OpenSpec.upto pathFindsSpec)) pathFindsUptoCard

/-- THE SECOND FORM's CARD OF 'carfaxlaw05.PathIs'. -/
def pathIsUptoCard : Claim7 := { stood := { row := pathIsUptoRow, standIns := [], harness := (true, "c2be77a88c11d133ba61acd9f5c9f3e8430b018a9d02cfd3d792cfadf2681c0f"), looks := false }, kinds := [], alts := [], laidByText := true, laidKinds := [.data, .pinned], laidTests := true, laidLooks := .later }
def PathIsUptoCardSaid : Prop := Claim7.holds Tryd.pinned (.plain (OpenSpec.upto pathIsSpec)) pathIsUptoCard

/-- THE SECOND FORM's CARD OF 'carfaxlaw05.PathShort'. -/
def pathShortUptoCard : Claim7 := { stood := { row := pathShortUptoRow, standIns := [], harness := (true, "c2be77a88c11d133ba61acd9f5c9f3e8430b018a9d02cfd3d792cfadf2681c0f"), looks := false }, kinds := [], alts := [], laidByText := true, laidKinds := [.data, .pinned], laidTests := true, laidLooks := .later }
def PathShortUptoCardSaid : Prop := Claim7.holds Tryd.pinned (.plain (OpenSpec.upto pathShortSpec)) pathShortUptoCard

/-- THE SECOND FORM's CARD OF 'carfaxlaw05.PathBlocked'. -/
def pathBlockedUptoCard : Claim7 := { stood := { row := pathBlockedUptoRow, standIns := [], harness := (true, "c2be77a88c11d133ba61acd9f5c9f3e8430b018a9d02cfd3d792cfadf2681c0f"), looks := false }, kinds := [], alts := [], laidByText := true, laidKinds := [.data, .pinned], laidTests := true, laidLooks := .later }
def PathBlockedUptoCardSaid : Prop := Claim7.holds Tryd.pinned (.plain (OpenSpec.upto pathBlockedSpec)) pathBlockedUptoCard

/-- THE SECOND FORM's CARD OF 'carfaxlaw05.PathSteps'. -/
def pathStepsUptoCard : Claim7 := { stood := { row := pathStepsUptoRow, standIns := [], harness := (true, "c2be77a88c11d133ba61acd9f5c9f3e8430b018a9d02cfd3d792cfadf2681c0f"), looks := false }, kinds := [], alts := [], laidByText := true, laidKinds := [.data, .pinned], laidTests := true, laidLooks := .later }
def PathStepsUptoCardSaid : Prop := Claim7.holds Tryd.pinned (.plain (OpenSpec.upto pathStepsSpec)) pathStepsUptoCard
end Rows
end Go.Proofs.YtaioiobimenkfaaDoor
