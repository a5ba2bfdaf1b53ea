/-
  DERIVED. GIVEN WITH THE SEED: THE CARDS: each row of YtcdclghmebgpnaaGreatDoorRows.lean that lists a variable, with what it lists TIED to the program's text (the seventh form; the later family's looks); each row that meets fmt, with fmt's text TOLD by the authors' own Lean function (tested against real Go, not proved from fmt's source: count such statements apart). THE CARD IS WHAT COUNTS. Prove the row's statement (the work); the ties are given (YtcdclghmebgpnaaGreatDoorTie.lean); close each card by the builder's one call (the guide's Derived/Test/ToyasCard.lean, 'card_holds'). Laid BY PROGRAM, IN A SANDBOX (cutbox-door.mjs). By AI agents, Wed Nov 11 2026. No macro, syntax, notation, axiom, sorry.
-/
import Derived.Test.YtcdclghmebgpnaaGreatDoorRows
import GoSem.ClaimSeven
namespace Go.Proofs.YtcdclghmebgpnaaGreatDoor
namespace Rows

/-- THE TIED CARD OF 'carfaxlaw07.SippSoons'. -/
def sippSoonsCard : Claim7 := { stood := { row := sippSoonsRow, standIns := [], harness := (true, "d853610f97d4ba2f6fcb4a9283be99f758b626a19ecd8f3962c00f62f6e3f731"), looks := false }, kinds := [], alts := [], laidByText := true, laidKinds := [.data, .pinned], laidTests := true, laidLooks := .later }
def SippSoonsCardSaid : Prop := Claim7.holds Tryz.pinned (.plain (OpenSpec.ofChange sippSoonsSpec)) sippSoonsCard

/-- THE TIED CARD OF 'carfaxlaw07.SippPlans'. -/
def sippPlansCard : Claim7 := { stood := { row := sippPlansRow, standIns := [], harness := (true, "d853610f97d4ba2f6fcb4a9283be99f758b626a19ecd8f3962c00f62f6e3f731"), looks := false }, kinds := [], alts := [], laidByText := true, laidKinds := [.data, .pinned], laidTests := true, laidLooks := .later }
def SippPlansCardSaid : Prop := Claim7.holds Tryz.pinned (.plain (OpenSpec.ofChange sippPlansSpec)) sippPlansCard

/-- THE TIED CARD OF 'carfaxtop.TopPlans'. -/
def topPlansCard : Claim7 := { stood := { row := topPlansRow, standIns := [], harness := (true, "d853610f97d4ba2f6fcb4a9283be99f758b626a19ecd8f3962c00f62f6e3f731"), looks := false }, kinds := [], alts := [], laidByText := true, laidKinds := [.data, .pinned], laidTests := true, laidLooks := .later }
def TopPlansCardSaid : Prop := Claim7.holds Tryz.pinned (.plain (OpenSpec.ofChange topPlansSpec)) topPlansCard

/-- THE SECOND FORM's CARD OF 'carfaxlaw07.SippSoons'. -/
def sippSoonsUptoCard : Claim7 := { stood := { row := sippSoonsUptoRow, standIns := [], harness := (true, "d853610f97d4ba2f6fcb4a9283be99f758b626a19ecd8f3962c00f62f6e3f731"), looks := false }, kinds := [], alts := [], laidByText := true, laidKinds := [.data, .pinned], laidTests := true, laidLooks := .later }
def SippSoonsUptoCardSaid : Prop := Claim7.holds Tryz.pinned (.plain (OpenSpec.upto sippSoonsSpec)) sippSoonsUptoCard

/-- THE SECOND FORM's CARD OF 'carfaxlaw07.SippPlans'. -/
def sippPlansUptoCard : Claim7 := { stood := { row := sippPlansUptoRow, standIns := [], harness := (true, "d853610f97d4ba2f6fcb4a9283be99f758b626a19ecd8f3962c00f62f6e3f731"), looks := false }, kinds := [], alts := [], laidByText := true, laidKinds := [.data, .pinned], laidTests := true, laidLooks := .later }
def SippPlansUptoCardSaid : Prop := Claim7.holds Tryz.pinned (.plain (OpenSpec.upto sippPlansSpec)) sippPlansUptoCard

/-- THE SECOND FORM's CARD OF 'carfaxtop.TopPlans'. -/
def topPlansUptoCard : Claim7 := { stood := { row := topPlansUptoRow, standIns := [], harness := (true, "d853610f97d4ba2f6fcb4a9283be99f758b626a19ecd8f3962c00f62f6e3f731"), looks := false }, kinds := [], alts := [], laidByText := true, laidKinds := [.data, .pinned], laidTests := true, laidLooks := .later }
def TopPlansUptoCardSaid : Prop := Claim7.holds Tryz.pinned (.plain (OpenSpec.upto topPlansSpec)) topPlansUptoCard
end Rows
end Go.Proofs.YtcdclghmebgpnaaGreatDoor
