/-
  NARROWER THAN 'FOR EVERY INPUT', by the rows' own cells (each row's printed sentence says how): SippSoons: laid · SippPlans: laid · SippIs: laid · SippWays: laid · SippFree: laid · SippParts: laid · TopPlans: laid.
  DERIVED. THE GIVEN ROWS OF THIS SEAT. 7 by the template 'for every input the law returns true; each argument reads behind the call as it read before'; 0 by the template 'total and deterministic' (their statements: YtinkpeliinofoaaGreatDoorTotals.lean).
  GIVEN WITH THE SEED: the statements are not yours to turn. If you find one false, say at which input.
  Laid BY PROGRAM, IN A SANDBOX (cutbox-rows.mjs): the forced cells as the released guide's own fill.sh prints them over the translation adc7520b5821a602… (all of the seat's roots in one cut). By AI agents, Wed Nov 11 2026. No macro, syntax, notation, axiom, sorry.
-/
import Derived.Test.YtinkpeliinofoaaGreatDoorChecked
import GoSem.PinnedTables
import GoSem.Claim
import GoSem.ClaimJoined
import GoSem.ClaimMapViews
import Derived.JoinedTies
import Derived.KernelRfl
namespace Go.Proofs.YtinkpeliinofoaaGreatDoor
/- THE CELL 'sum', in the pinned program and in every row, IS THE sha256 OF THE DUMP (.gsa) THAT YtinkpeliinofoaaGreatDoorProg.lean LOADS. Nothing in Lean hashes anything: it is a label: what it is worth is what the hold of that sum in a sandbox is worth. -/
noncomputable def Tryz.pinned : Pinned := { name := "ytinkpeliinofoaagreatdoor", sum := "adc7520b5821a60260018489891f152a1ad173d48b30bf6fd9370be9ddcf04a7", checked := Tryz.checked }
namespace Rows
def none {H : Type} : Left H := { results := [], args := [] }

/- WHAT THE LISTED PACKAGE-LEVEL VARIABLES READ AS WHEN THE CALL BEGINS. Each datum BY PROGRAM (the guide's laid-datum.mjs) off the statement by which the dump's own 'gosem.cut.vars' lays the variable. In a bare row this is a premise. The card (YtinkpeliinofoaaGreatDoorCards.lean) ties it to the program's text. -/
def laid_unicode_utf8_acceptRanges {H : Type} : DataW H := .agg [.agg [.lit (.int .u8 128), .lit (.int .u8 191)], .agg [.lit (.int .u8 160), .lit (.int .u8 191)], .agg [.lit (.int .u8 128), .lit (.int .u8 159)], .agg [.lit (.int .u8 144), .lit (.int .u8 191)], .agg [.lit (.int .u8 128), .lit (.int .u8 143)], .agg [.lit (.int .u8 0), .lit (.int .u8 0)], .agg [.lit (.int .u8 0), .lit (.int .u8 0)], .agg [.lit (.int .u8 0), .lit (.int .u8 0)], .agg [.lit (.int .u8 0), .lit (.int .u8 0)], .agg [.lit (.int .u8 0), .lit (.int .u8 0)], .agg [.lit (.int .u8 0), .lit (.int .u8 0)], .agg [.lit (.int .u8 0), .lit (.int .u8 0)], .agg [.lit (.int .u8 0), .lit (.int .u8 0)], .agg [.lit (.int .u8 0), .lit (.int .u8 0)], .agg [.lit (.int .u8 0), .lit (.int .u8 0)], .agg [.lit (.int .u8 0), .lit (.int .u8 0)]]
/-- One of Go's own tables, pinned by name: the form's constant. -/
def laid_unicode_utf8_first : DataW Unit := Go.Pinned.utf8First

/-- 'carfaxlaw07.SippSoons': WHATEVER THE INPUT: true; the input reads as it did. -/
def sippSoonsSpec : ChangeSpec := { name := "sippSoons", fn := fun _ => fun
  | [d] => { results := [.lit (.bool true)], args := [d] }
  | _ => none }
def sippSoonsRow : OpenClaim := { program := "ytinkpeliinofoaagreatdoor", sum := "adc7520b5821a60260018489891f152a1ad173d48b30bf6fd9370be9ddcf04a7", func := "carfax/carfaxlaw07.SippSoons", spec := "sippSoons", inPlace := ["internal/bytealg.CountString", "internal/bytealg.IndexByteString", "internal/bytealg.IndexString", "slices.overlaps[carfax/api.Window]"], unfollowed := true, recurses := true, named := ["unicode/utf8.first", "unicode/utf8.acceptRanges", "internal/bytealg.MaxLen"], plainKeys := false, apart := false, laid := [("unicode/utf8.acceptRanges", laid_unicode_utf8_acceptRanges), ("unicode/utf8.first", laid_unicode_utf8_first)] }
def SippSoonsSaid : Prop := sippSoonsRow.holds Tryz.pinned (OpenSpec.ofChange sippSoonsSpec)

/-- ITS FALSE NEIGHBOUR: 'it returns false'. Refute it at one input. -/
def sippSoonsWrong : ChangeSpec := { name := "sippSoons", fn := fun _ => fun
  | [d] => { results := [.lit (.bool false)], args := [d] }
  | _ => none }
def SippSoonsWrongFalsely : Prop := sippSoonsRow.holds Tryz.pinned (OpenSpec.ofChange sippSoonsWrong)

/-- 'carfaxlaw07.SippPlans': WHATEVER THE INPUT: true; the input reads as it did. -/
def sippPlansSpec : ChangeSpec := { name := "sippPlans", fn := fun _ => fun
  | [d] => { results := [.lit (.bool true)], args := [d] }
  | _ => none }
def sippPlansRow : OpenClaim := { program := "ytinkpeliinofoaagreatdoor", sum := "adc7520b5821a60260018489891f152a1ad173d48b30bf6fd9370be9ddcf04a7", func := "carfax/carfaxlaw07.SippPlans", spec := "sippPlans", inPlace := ["internal/bytealg.CountString", "internal/bytealg.IndexByteString", "internal/bytealg.IndexString", "slices.overlaps[carfax/api.Window]"], unfollowed := true, recurses := true, named := ["unicode/utf8.first", "unicode/utf8.acceptRanges", "internal/bytealg.MaxLen"], plainKeys := false, apart := false, laid := [("unicode/utf8.acceptRanges", laid_unicode_utf8_acceptRanges), ("unicode/utf8.first", laid_unicode_utf8_first)] }
def SippPlansSaid : Prop := sippPlansRow.holds Tryz.pinned (OpenSpec.ofChange sippPlansSpec)

/-- ITS FALSE NEIGHBOUR: 'it returns false'. Refute it at one input. -/
def sippPlansWrong : ChangeSpec := { name := "sippPlans", fn := fun _ => fun
  | [d] => { results := [.lit (.bool false)], args := [d] }
  | _ => none }
def SippPlansWrongFalsely : Prop := sippPlansRow.holds Tryz.pinned (OpenSpec.ofChange sippPlansWrong)

/-- 'carfaxlaw07.SippIs': WHATEVER THE INPUT: true; the input reads as it did. -/
def sippIsSpec : ChangeSpec := { name := "sippIs", fn := fun _ => fun
  | [d1, d2] => { results := [.lit (.bool true)], args := [d1, d2] }
  | _ => none }
def sippIsRow : OpenClaim := { program := "ytinkpeliinofoaagreatdoor", sum := "adc7520b5821a60260018489891f152a1ad173d48b30bf6fd9370be9ddcf04a7", func := "carfax/carfaxlaw07.SippIs", spec := "sippIs", inPlace := ["internal/bytealg.CountString", "internal/bytealg.IndexByteString", "internal/bytealg.IndexString", "slices.overlaps[carfax/api.Window]"], unfollowed := true, recurses := true, named := ["unicode/utf8.first", "unicode/utf8.acceptRanges", "internal/bytealg.MaxLen"], plainKeys := false, apart := false, laid := [("unicode/utf8.acceptRanges", laid_unicode_utf8_acceptRanges), ("unicode/utf8.first", laid_unicode_utf8_first)] }
def SippIsSaid : Prop := sippIsRow.holds Tryz.pinned (OpenSpec.ofChange sippIsSpec)

/-- ITS FALSE NEIGHBOUR: 'it returns false'. Refute it at one input. -/
def sippIsWrong : ChangeSpec := { name := "sippIs", fn := fun _ => fun
  | [d1, d2] => { results := [.lit (.bool false)], args := [d1, d2] }
  | _ => none }
def SippIsWrongFalsely : Prop := sippIsRow.holds Tryz.pinned (OpenSpec.ofChange sippIsWrong)

/-- 'carfaxlaw07.SippWays': WHATEVER THE INPUT: true; the input reads as it did. -/
def sippWaysSpec : ChangeSpec := { name := "sippWays", fn := fun _ => fun
  | [d] => { results := [.lit (.bool true)], args := [d] }
  | _ => none }
def sippWaysRow : OpenClaim := { program := "ytinkpeliinofoaagreatdoor", sum := "adc7520b5821a60260018489891f152a1ad173d48b30bf6fd9370be9ddcf04a7", func := "carfax/carfaxlaw07.SippWays", spec := "sippWays", inPlace := ["internal/bytealg.CountString", "internal/bytealg.IndexByteString", "internal/bytealg.IndexString", "slices.overlaps[carfax/api.Window]"], unfollowed := true, recurses := true, named := ["unicode/utf8.first", "unicode/utf8.acceptRanges", "internal/bytealg.MaxLen"], plainKeys := false, apart := false, laid := [("unicode/utf8.acceptRanges", laid_unicode_utf8_acceptRanges), ("unicode/utf8.first", laid_unicode_utf8_first)] }
def SippWaysSaid : Prop := sippWaysRow.holds Tryz.pinned (OpenSpec.ofChange sippWaysSpec)

/-- ITS FALSE NEIGHBOUR: 'it returns false'. Refute it at one input. -/
def sippWaysWrong : ChangeSpec := { name := "sippWays", fn := fun _ => fun
  | [d] => { results := [.lit (.bool false)], args := [d] }
  | _ => none }
def SippWaysWrongFalsely : Prop := sippWaysRow.holds Tryz.pinned (OpenSpec.ofChange sippWaysWrong)

/-- 'carfaxlaw07.SippFree': WHATEVER THE INPUT: true; the input reads as it did. -/
def sippFreeSpec : ChangeSpec := { name := "sippFree", fn := fun _ => fun
  | [d] => { results := [.lit (.bool true)], args := [d] }
  | _ => none }
def sippFreeRow : OpenClaim := { program := "ytinkpeliinofoaagreatdoor", sum := "adc7520b5821a60260018489891f152a1ad173d48b30bf6fd9370be9ddcf04a7", func := "carfax/carfaxlaw07.SippFree", spec := "sippFree", inPlace := ["internal/bytealg.CountString", "internal/bytealg.IndexByteString", "internal/bytealg.IndexString", "slices.overlaps[carfax/api.Window]"], unfollowed := true, recurses := true, named := ["unicode/utf8.first", "unicode/utf8.acceptRanges", "internal/bytealg.MaxLen"], plainKeys := false, apart := false, laid := [("unicode/utf8.acceptRanges", laid_unicode_utf8_acceptRanges), ("unicode/utf8.first", laid_unicode_utf8_first)] }
def SippFreeSaid : Prop := sippFreeRow.holds Tryz.pinned (OpenSpec.ofChange sippFreeSpec)

/-- ITS FALSE NEIGHBOUR: 'it returns false'. Refute it at one input. -/
def sippFreeWrong : ChangeSpec := { name := "sippFree", fn := fun _ => fun
  | [d] => { results := [.lit (.bool false)], args := [d] }
  | _ => none }
def SippFreeWrongFalsely : Prop := sippFreeRow.holds Tryz.pinned (OpenSpec.ofChange sippFreeWrong)

/-- 'carfaxlaw07.SippParts': WHATEVER THE INPUT: true; the input reads as it did. -/
def sippPartsSpec : ChangeSpec := { name := "sippParts", fn := fun _ => fun
  | [d] => { results := [.lit (.bool true)], args := [d] }
  | _ => none }
def sippPartsRow : OpenClaim := { program := "ytinkpeliinofoaagreatdoor", sum := "adc7520b5821a60260018489891f152a1ad173d48b30bf6fd9370be9ddcf04a7", func := "carfax/carfaxlaw07.SippParts", spec := "sippParts", inPlace := ["internal/bytealg.CountString", "internal/bytealg.IndexByteString", "internal/bytealg.IndexString", "slices.overlaps[carfax/api.Window]"], unfollowed := true, recurses := true, named := ["unicode/utf8.first", "unicode/utf8.acceptRanges", "internal/bytealg.MaxLen"], plainKeys := false, apart := false, laid := [("unicode/utf8.acceptRanges", laid_unicode_utf8_acceptRanges), ("unicode/utf8.first", laid_unicode_utf8_first)] }
def SippPartsSaid : Prop := sippPartsRow.holds Tryz.pinned (OpenSpec.ofChange sippPartsSpec)

/-- ITS FALSE NEIGHBOUR: 'it returns false'. Refute it at one input. -/
def sippPartsWrong : ChangeSpec := { name := "sippParts", fn := fun _ => fun
  | [d] => { results := [.lit (.bool false)], args := [d] }
  | _ => none }
def SippPartsWrongFalsely : Prop := sippPartsRow.holds Tryz.pinned (OpenSpec.ofChange sippPartsWrong)

/-- 'carfaxtop.TopPlans': WHATEVER THE INPUT: true; the input reads as it did. -/
def topPlansSpec : ChangeSpec := { name := "topPlans", fn := fun _ => fun
  | [d1, d2] => { results := [.lit (.bool true)], args := [d1, d2] }
  | _ => none }
def topPlansRow : OpenClaim := { program := "ytinkpeliinofoaagreatdoor", sum := "adc7520b5821a60260018489891f152a1ad173d48b30bf6fd9370be9ddcf04a7", func := "carfax/carfaxtop.TopPlans", spec := "topPlans", inPlace := ["internal/bytealg.CountString", "internal/bytealg.IndexByteString", "internal/bytealg.IndexString", "slices.overlaps[carfax/api.Window]"], unfollowed := true, recurses := true, named := ["unicode/utf8.first", "unicode/utf8.acceptRanges", "internal/bytealg.MaxLen"], plainKeys := false, apart := false, laid := [("unicode/utf8.acceptRanges", laid_unicode_utf8_acceptRanges), ("unicode/utf8.first", laid_unicode_utf8_first)] }
def TopPlansSaid : Prop := topPlansRow.holds Tryz.pinned (OpenSpec.ofChange topPlansSpec)

/-- ITS FALSE NEIGHBOUR: 'it returns false'. Refute it at one input. -/
def topPlansWrong : ChangeSpec := { name := "topPlans", fn := fun _ => fun
  | [d1, d2] => { results := [.lit (.bool false)], args := [d1, d2] }
  | _ => none }
def TopPlansWrongFalsely : Prop := topPlansRow.holds Tryz.pinned (OpenSpec.ofChange topPlansWrong)

/- THE SECOND FORM. 'bulk': how many values and letters a reading holds, each counted each time it is reached (what is shared counts as often as it is met; a slice's spare places count too). A statement '..UptoSaid' is the law's where the arguments, and the package variables that the reading takes, are together of bulk at most 1048576: NARROWER than '..Said'. Prove '..Said' where nothing that the law and all that it calls make is longer than what came in: it says more and counts as full. Else prove '..UptoSaid'. A law counts once. -/
mutual
def uptoBulk {H : Type} : DataW H → Nat
  | .lit (.string bytes) => bytes.length + 1
  | .lit _ => 1
  | .nil => 1
  | .ptr d => uptoBulk d + 1
  | .slice elems spare => uptoBulkAll elems + uptoBulkAll spare + 1
  | .agg parts => uptoBulkAll parts + 1
  | .iface _ d => uptoBulk d + 1
  | .map entries => uptoBulkEntries entries + 1
  | .held _ => 1
def uptoBulkAll {H : Type} : List (DataW H) → Nat
  | [] => 0
  | d :: r => uptoBulk d + uptoBulkAll r
def uptoBulkEntries {H : Type} : List (Lit × DataW H) → Nat
  | [] => 0
  | x :: r => uptoBulkEntry x + uptoBulkEntries r
def uptoBulkEntry {H : Type} : Lit × DataW H → Nat
  | (.string bytes, d) => bytes.length + uptoBulk d + 1
  | (_, d) => uptoBulk d + 1
 end
def uptoSmall : (H : Type) → List (DataW H) → Bool := fun _ ds => decide (uptoBulkAll ds ≤ 1048576)
def OpenSpec.upto (s : _root_.Go.ChangeSpec) : _root_.Go.OpenSpec := { _root_.Go.OpenSpec.ofChange s with cond := some uptoSmall }

/-- 'carfaxlaw07.SippSoons', WHERE WHAT IT READS IS OF BULK AT MOST 1048576: true; the input reads as it did. -/
def sippSoonsUptoRow : OpenClaim := { program := "ytinkpeliinofoaagreatdoor", sum := "adc7520b5821a60260018489891f152a1ad173d48b30bf6fd9370be9ddcf04a7", func := "carfax/carfaxlaw07.SippSoons", spec := "sippSoons", inPlace := ["internal/bytealg.CountString", "internal/bytealg.IndexByteString", "internal/bytealg.IndexString", "slices.overlaps[carfax/api.Window]"], unfollowed := true, recurses := true, named := ["unicode/utf8.first", "unicode/utf8.acceptRanges", "internal/bytealg.MaxLen"], plainKeys := false, apart := false, laid := [("unicode/utf8.acceptRanges", laid_unicode_utf8_acceptRanges), ("unicode/utf8.first", laid_unicode_utf8_first)], narrowed := true }
def SippSoonsUptoSaid : Prop := sippSoonsUptoRow.holds Tryz.pinned (OpenSpec.upto sippSoonsSpec)

/-- 'carfaxlaw07.SippPlans', WHERE WHAT IT READS IS OF BULK AT MOST 1048576: true; the input reads as it did. -/
def sippPlansUptoRow : OpenClaim := { program := "ytinkpeliinofoaagreatdoor", sum := "adc7520b5821a60260018489891f152a1ad173d48b30bf6fd9370be9ddcf04a7", func := "carfax/carfaxlaw07.SippPlans", spec := "sippPlans", inPlace := ["internal/bytealg.CountString", "internal/bytealg.IndexByteString", "internal/bytealg.IndexString", "slices.overlaps[carfax/api.Window]"], unfollowed := true, recurses := true, named := ["unicode/utf8.first", "unicode/utf8.acceptRanges", "internal/bytealg.MaxLen"], plainKeys := false, apart := false, laid := [("unicode/utf8.acceptRanges", laid_unicode_utf8_acceptRanges), ("unicode/utf8.first", laid_unicode_utf8_first)], narrowed := true }
def SippPlansUptoSaid : Prop := sippPlansUptoRow.holds Tryz.pinned (OpenSpec.upto sippPlansSpec)

/-- 'carfaxlaw07.SippIs', WHERE WHAT IT READS IS OF BULK AT MOST 1048576: true; the input reads as it did. -/
def sippIsUptoRow : OpenClaim := { program := "ytinkpeliinofoaagreatdoor", sum := "adc7520b5821a60260018489891f152a1ad173d48b30bf6fd9370be9ddcf04a7", func := "carfax/carfaxlaw07.SippIs", spec := "sippIs", inPlace := ["internal/bytealg.CountString", "internal/bytealg.IndexByteString", "internal/bytealg.IndexString", "slices.overlaps[carfax/api.Window]"], unfollowed := true, recurses := true, named := ["unicode/utf8.first", "unicode/utf8.acceptRanges", "internal/bytealg.MaxLen"], plainKeys := false, apart := false, laid := [("unicode/utf8.acceptRanges", laid_unicode_utf8_acceptRanges), ("unicode/utf8.first", laid_unicode_utf8_first)], narrowed := true }
def SippIsUptoSaid : Prop := sippIsUptoRow.holds Tryz.pinned (OpenSpec.upto sippIsSpec)

/-- 'carfaxlaw07.SippWays', WHERE WHAT IT READS IS OF BULK AT MOST 1048576: true; the input reads as it did. -/
def sippWaysUptoRow : OpenClaim := { program := "ytinkpeliinofoaagreatdoor", sum := "adc7520b5821a60260018489891f152a1ad173d48b30bf6fd9370be9ddcf04a7", func := "carfax/carfaxlaw07.SippWays", spec := "sippWays", inPlace := ["internal/bytealg.CountString", "internal/bytealg.IndexByteString", "internal/bytealg.IndexString", "slices.overlaps[carfax/api.Window]"], unfollowed := true, recurses := true, named := ["unicode/utf8.first", "unicode/utf8.acceptRanges", "internal/bytealg.MaxLen"], plainKeys := false, apart := false, laid := [("unicode/utf8.acceptRanges", laid_unicode_utf8_acceptRanges), ("unicode/utf8.first", laid_unicode_utf8_first)], narrowed := true }
def SippWaysUptoSaid : Prop := sippWaysUptoRow.holds Tryz.pinned (OpenSpec.upto sippWaysSpec)

/-- 'carfaxlaw07.SippFree', WHERE WHAT IT READS IS OF BULK AT MOST 1048576: true; the input reads as it did. -/
def sippFreeUptoRow : OpenClaim := { program := "ytinkpeliinofoaagreatdoor", sum := "adc7520b5821a60260018489891f152a1ad173d48b30bf6fd9370be9ddcf04a7", func := "carfax/carfaxlaw07.SippFree", spec := "sippFree", inPlace := ["internal/bytealg.CountString", "internal/bytealg.IndexByteString", "internal/bytealg.IndexString", "slices.overlaps[carfax/api.Window]"], unfollowed := true, recurses := true, named := ["unicode/utf8.first", "unicode/utf8.acceptRanges", "internal/bytealg.MaxLen"], plainKeys := false, apart := false, laid := [("unicode/utf8.acceptRanges", laid_unicode_utf8_acceptRanges), ("unicode/utf8.first", laid_unicode_utf8_first)], narrowed := true }
def SippFreeUptoSaid : Prop := sippFreeUptoRow.holds Tryz.pinned (OpenSpec.upto sippFreeSpec)

/-- 'carfaxlaw07.SippParts', WHERE WHAT IT READS IS OF BULK AT MOST 1048576: true; the input reads as it did. -/
def sippPartsUptoRow : OpenClaim := { program := "ytinkpeliinofoaagreatdoor", sum := "adc7520b5821a60260018489891f152a1ad173d48b30bf6fd9370be9ddcf04a7", func := "carfax/carfaxlaw07.SippParts", spec := "sippParts", inPlace := ["internal/bytealg.CountString", "internal/bytealg.IndexByteString", "internal/bytealg.IndexString", "slices.overlaps[carfax/api.Window]"], unfollowed := true, recurses := true, named := ["unicode/utf8.first", "unicode/utf8.acceptRanges", "internal/bytealg.MaxLen"], plainKeys := false, apart := false, laid := [("unicode/utf8.acceptRanges", laid_unicode_utf8_acceptRanges), ("unicode/utf8.first", laid_unicode_utf8_first)], narrowed := true }
def SippPartsUptoSaid : Prop := sippPartsUptoRow.holds Tryz.pinned (OpenSpec.upto sippPartsSpec)

/-- 'carfaxtop.TopPlans', WHERE WHAT IT READS IS OF BULK AT MOST 1048576: true; the input reads as it did. -/
def topPlansUptoRow : OpenClaim := { program := "ytinkpeliinofoaagreatdoor", sum := "adc7520b5821a60260018489891f152a1ad173d48b30bf6fd9370be9ddcf04a7", func := "carfax/carfaxtop.TopPlans", spec := "topPlans", inPlace := ["internal/bytealg.CountString", "internal/bytealg.IndexByteString", "internal/bytealg.IndexString", "slices.overlaps[carfax/api.Window]"], unfollowed := true, recurses := true, named := ["unicode/utf8.first", "unicode/utf8.acceptRanges", "internal/bytealg.MaxLen"], plainKeys := false, apart := false, laid := [("unicode/utf8.acceptRanges", laid_unicode_utf8_acceptRanges), ("unicode/utf8.first", laid_unicode_utf8_first)], narrowed := true }
def TopPlansUptoSaid : Prop := topPlansUptoRow.holds Tryz.pinned (OpenSpec.upto topPlansSpec)

end Rows
end Go.Proofs.YtinkpeliinofoaaGreatDoor
