/-
  NARROWER THAN 'FOR EVERY INPUT', by the rows' own cells (each row's printed sentence says how): RobotPlays: laid · RobotOnce: laid · RobotCharge: laid · RobotNil: laid · RobotStays: laid · TopTold: laid.
  DERIVED. THE GIVEN ROWS OF THIS SEAT. 6 by the template 'for every input the law returns true; each argument reads behind the call as it read before'; 0 by the template 'total and deterministic' (their statements: YtobpinelhjpfgaaDoorTotals.lean).
  GIVEN WITH THE SEED: the statements are not yours to turn. If you find one false, say at which input.
  Laid BY PROGRAM, IN A SANDBOX (cutbox-rows.mjs): the forced cells as the released guide's own fill.sh prints them over the translation 758a1bd87f797742… (all of the seat's roots in one cut). By AI agents, Wed Nov 11 2026. No macro, syntax, notation, axiom, sorry.
-/
import Derived.Test.YtobpinelhjpfgaaDoorChecked
import GoSem.Claim
import GoSem.ClaimJoined
import GoSem.ClaimMapViews
import Derived.JoinedTies
import Derived.KernelRfl
namespace Go.Proofs.YtobpinelhjpfgaaDoor
/- THE CELL 'sum', in the pinned program and in every row, IS THE sha256 OF THE DUMP (.gsa) THAT YtobpinelhjpfgaaDoorProg.lean LOADS. Nothing in Lean hashes anything: it is a label: what it is worth is what the hold of that sum in a sandbox is worth. -/
noncomputable def Tryd.pinned : Pinned := { name := "ytobpinelhjpfgaadoor", sum := "758a1bd87f7977423b4a254cd28726e819fce00b41ea5aefb2fe3110cabf3fb8", checked := Tryd.checked }
namespace Rows
def none {H : Type} : Left H := { results := [], args := [] }

/- WHAT THE LISTED PACKAGE-LEVEL VARIABLES READ AS WHEN THE CALL BEGINS. Each datum BY PROGRAM (the guide's laid-datum.mjs) off the statement by which the dump's own 'gosem.cut.vars' lays the variable. In a bare row this is a premise. The card (YtobpinelhjpfgaaDoorCards.lean) ties it to the program's text. -/
def laid_carfax_record_shapes {H : Type} : DataW H := .agg [.agg [.lit (.int .i64 1073741824), .lit (.int .i64 0)], .agg [.lit (.int .i64 7), .lit (.int .i64 3)], .agg [.lit (.int .i64 63), .lit (.int .i64 6)], .agg [.lit (.int .i64 255), .lit (.int .i64 8)], .agg [.lit (.int .i64 5), .lit (.int .i64 3)]]

/-- 'carfaxlaw18.RobotPlays': WHATEVER THE INPUT: true; the input reads as it did. -/
def robotPlaysSpec : ChangeSpec := { name := "robotPlays", fn := fun _ => fun
  | [d1, d2, d3] => { results := [.lit (.bool true)], args := [d1, d2, d3] }
  | _ => none }
def robotPlaysRow : OpenClaim := { program := "ytobpinelhjpfgaadoor", sum := "758a1bd87f7977423b4a254cd28726e819fce00b41ea5aefb2fe3110cabf3fb8", func := "carfax/carfaxlaw18.RobotPlays", spec := "robotPlays", unfollowed := true, recurses := true, named := ["carfax/record.shapes"], apart := false, laid := [("carfax/record.shapes", laid_carfax_record_shapes)] }
def RobotPlaysSaid : Prop := robotPlaysRow.holds Tryd.pinned (OpenSpec.ofChange robotPlaysSpec)

/-- ITS FALSE NEIGHBOUR: 'it returns false'. Refute it at one input. -/
def robotPlaysWrong : ChangeSpec := { name := "robotPlays", fn := fun _ => fun
  | [d1, d2, d3] => { results := [.lit (.bool false)], args := [d1, d2, d3] }
  | _ => none }
def RobotPlaysWrongFalsely : Prop := robotPlaysRow.holds Tryd.pinned (OpenSpec.ofChange robotPlaysWrong)

/-- 'carfaxlaw18.RobotOnce': WHATEVER THE INPUT: true; the input reads as it did. -/
def robotOnceSpec : ChangeSpec := { name := "robotOnce", fn := fun _ => fun
  | [d1, d2] => { results := [.lit (.bool true)], args := [d1, d2] }
  | _ => none }
def robotOnceRow : OpenClaim := { program := "ytobpinelhjpfgaadoor", sum := "758a1bd87f7977423b4a254cd28726e819fce00b41ea5aefb2fe3110cabf3fb8", func := "carfax/carfaxlaw18.RobotOnce", spec := "robotOnce", unfollowed := true, recurses := true, named := ["carfax/record.shapes"], apart := false, laid := [("carfax/record.shapes", laid_carfax_record_shapes)] }
def RobotOnceSaid : Prop := robotOnceRow.holds Tryd.pinned (OpenSpec.ofChange robotOnceSpec)

/-- ITS FALSE NEIGHBOUR: 'it returns false'. Refute it at one input. -/
def robotOnceWrong : ChangeSpec := { name := "robotOnce", fn := fun _ => fun
  | [d1, d2] => { results := [.lit (.bool false)], args := [d1, d2] }
  | _ => none }
def RobotOnceWrongFalsely : Prop := robotOnceRow.holds Tryd.pinned (OpenSpec.ofChange robotOnceWrong)

/-- 'carfaxlaw18.RobotCharge': WHATEVER THE INPUT: true; the input reads as it did. -/
def robotChargeSpec : ChangeSpec := { name := "robotCharge", fn := fun _ => fun
  | [d1, d2] => { results := [.lit (.bool true)], args := [d1, d2] }
  | _ => none }
def robotChargeRow : OpenClaim := { program := "ytobpinelhjpfgaadoor", sum := "758a1bd87f7977423b4a254cd28726e819fce00b41ea5aefb2fe3110cabf3fb8", func := "carfax/carfaxlaw18.RobotCharge", spec := "robotCharge", unfollowed := true, recurses := true, named := ["carfax/record.shapes"], apart := false, laid := [("carfax/record.shapes", laid_carfax_record_shapes)] }
def RobotChargeSaid : Prop := robotChargeRow.holds Tryd.pinned (OpenSpec.ofChange robotChargeSpec)

/-- ITS FALSE NEIGHBOUR: 'it returns false'. Refute it at one input. -/
def robotChargeWrong : ChangeSpec := { name := "robotCharge", fn := fun _ => fun
  | [d1, d2] => { results := [.lit (.bool false)], args := [d1, d2] }
  | _ => none }
def RobotChargeWrongFalsely : Prop := robotChargeRow.holds Tryd.pinned (OpenSpec.ofChange robotChargeWrong)

/-- 'carfaxlaw18.RobotNil': WHATEVER THE INPUT: true; the input reads as it did. -/
def robotNilSpec : ChangeSpec := { name := "robotNil", fn := fun _ => fun
  | [d] => { results := [.lit (.bool true)], args := [d] }
  | _ => none }
def robotNilRow : OpenClaim := { program := "ytobpinelhjpfgaadoor", sum := "758a1bd87f7977423b4a254cd28726e819fce00b41ea5aefb2fe3110cabf3fb8", func := "carfax/carfaxlaw18.RobotNil", spec := "robotNil", unfollowed := true, recurses := true, named := ["carfax/record.shapes"], apart := false, laid := [("carfax/record.shapes", laid_carfax_record_shapes)] }
def RobotNilSaid : Prop := robotNilRow.holds Tryd.pinned (OpenSpec.ofChange robotNilSpec)

/-- ITS FALSE NEIGHBOUR: 'it returns false'. Refute it at one input. -/
def robotNilWrong : ChangeSpec := { name := "robotNil", fn := fun _ => fun
  | [d] => { results := [.lit (.bool false)], args := [d] }
  | _ => none }
def RobotNilWrongFalsely : Prop := robotNilRow.holds Tryd.pinned (OpenSpec.ofChange robotNilWrong)

/-- 'carfaxlaw18.RobotStays': WHATEVER THE INPUT: true; the input reads as it did. -/
def robotStaysSpec : ChangeSpec := { name := "robotStays", fn := fun _ => fun
  | [d1, d2, d3] => { results := [.lit (.bool true)], args := [d1, d2, d3] }
  | _ => none }
def robotStaysRow : OpenClaim := { program := "ytobpinelhjpfgaadoor", sum := "758a1bd87f7977423b4a254cd28726e819fce00b41ea5aefb2fe3110cabf3fb8", func := "carfax/carfaxlaw18.RobotStays", spec := "robotStays", unfollowed := true, recurses := true, named := ["carfax/record.shapes"], apart := false, laid := [("carfax/record.shapes", laid_carfax_record_shapes)] }
def RobotStaysSaid : Prop := robotStaysRow.holds Tryd.pinned (OpenSpec.ofChange robotStaysSpec)

/-- ITS FALSE NEIGHBOUR: 'it returns false'. Refute it at one input. -/
def robotStaysWrong : ChangeSpec := { name := "robotStays", fn := fun _ => fun
  | [d1, d2, d3] => { results := [.lit (.bool false)], args := [d1, d2, d3] }
  | _ => none }
def RobotStaysWrongFalsely : Prop := robotStaysRow.holds Tryd.pinned (OpenSpec.ofChange robotStaysWrong)

/-- 'carfaxtop.TopTold': WHATEVER THE INPUT: true; the input reads as it did. -/
def topToldSpec : ChangeSpec := { name := "topTold", fn := fun _ => fun
  | [d] => { results := [.lit (.bool true)], args := [d] }
  | _ => none }
def topToldRow : OpenClaim := { program := "ytobpinelhjpfgaadoor", sum := "758a1bd87f7977423b4a254cd28726e819fce00b41ea5aefb2fe3110cabf3fb8", func := "carfax/carfaxtop.TopTold", spec := "topTold", unfollowed := true, recurses := true, named := ["carfax/record.shapes"], apart := false, laid := [("carfax/record.shapes", laid_carfax_record_shapes)] }
def TopToldSaid : Prop := topToldRow.holds Tryd.pinned (OpenSpec.ofChange topToldSpec)

/-- ITS FALSE NEIGHBOUR: 'it returns false'. Refute it at one input. -/
def topToldWrong : ChangeSpec := { name := "topTold", fn := fun _ => fun
  | [d] => { results := [.lit (.bool false)], args := [d] }
  | _ => none }
def TopToldWrongFalsely : Prop := topToldRow.holds Tryd.pinned (OpenSpec.ofChange topToldWrong)

/- THE SECOND FORM. 'bulk': how many values and letters a reading holds, each counted each time it is reached (what is shared counts as often as it is met; a slice's spare places count too). A statement '..UptoSaid' is the law's where the arguments, and the package variables that the reading takes, are together of bulk at most 1048576: NARROWER than '..Said'. Prove '..Said' where nothing that the law and all that it calls make is longer than what came in: it says more and counts as full. Else prove '..UptoSaid'. A law counts once. -/
mutual
def uptoBulk {H : Type} : DataW H → Nat
  | .lit (.string bytes) => bytes.length + 1
  | .lit _ => 1
  | .nil => 1
  | .ptr d => uptoBulk d + 1
  | .slice elems spare => uptoBulkAll elems + uptoBulkAll spare + 1
  | .agg parts => uptoBulkAll parts + 1
  | .iface _ d => uptoBulk d + 1
  | .map entries => uptoBulkEntries entries + 1
  | .held _ => 1
def uptoBulkAll {H : Type} : List (DataW H) → Nat
  | [] => 0
  | d :: r => uptoBulk d + uptoBulkAll r
def uptoBulkEntries {H : Type} : List (Lit × DataW H) → Nat
  | [] => 0
  | x :: r => uptoBulkEntry x + uptoBulkEntries r
def uptoBulkEntry {H : Type} : Lit × DataW H → Nat
  | (.string bytes, d) => bytes.length + uptoBulk d + 1
  | (_, d) => uptoBulk d + 1
 end
def uptoSmall : (H : Type) → List (DataW H) → Bool := fun _ ds => decide (uptoBulkAll ds ≤ 1048576)
def OpenSpec.upto (s : _root_.Go.ChangeSpec) : _root_.Go.OpenSpec := { _root_.Go.OpenSpec.ofChange s with cond := some uptoSmall }

/-- 'carfaxlaw18.RobotPlays', WHERE WHAT IT READS IS OF BULK AT MOST 1048576: true; the input reads as it did. -/
def robotPlaysUptoRow : OpenClaim := { program := "ytobpinelhjpfgaadoor", sum := "758a1bd87f7977423b4a254cd28726e819fce00b41ea5aefb2fe3110cabf3fb8", func := "carfax/carfaxlaw18.RobotPlays", spec := "robotPlays", unfollowed := true, recurses := true, named := ["carfax/record.shapes"], apart := false, laid := [("carfax/record.shapes", laid_carfax_record_shapes)], narrowed := true }
def RobotPlaysUptoSaid : Prop := robotPlaysUptoRow.holds Tryd.pinned (OpenSpec.upto robotPlaysSpec)

/-- 'carfaxlaw18.RobotOnce', WHERE WHAT IT READS IS OF BULK AT MOST 1048576: true; the input reads as it did. -/
def robotOnceUptoRow : OpenClaim := { program := "ytobpinelhjpfgaadoor", sum := "758a1bd87f7977423b4a254cd28726e819fce00b41ea5aefb2fe3110cabf3fb8", func := "carfax/carfaxlaw18.RobotOnce", spec := "robotOnce", unfollowed := true, recurses := true, named := ["carfax/record.shapes"], apart := false, laid := [("carfax/record.shapes", laid_carfax_record_shapes)], narrowed := true }
def RobotOnceUptoSaid : Prop := robotOnceUptoRow.holds Tryd.pinned (OpenSpec.upto robotOnceSpec)

/-- 'carfaxlaw18.RobotCharge', WHERE WHAT IT READS IS OF BULK AT MOST 1048576: true; the input reads as it did. -/
def robotChargeUptoRow : OpenClaim := { program := "ytobpinelhjpfgaadoor", sum := "758a1bd87f7977423b4a254cd28726e819fce00b41ea5aefb2fe3110cabf3fb8", func := "carfax/carfaxlaw18.RobotCharge", spec := "robotCharge", unfollowed := true, recurses := true, named := ["carfax/record.shapes"], apart := false, laid := [("carfax/record.shapes", laid_carfax_record_shapes)], narrowed := true }
def RobotChargeUptoSaid : Prop := robotChargeUptoRow.holds Tryd.pinned (OpenSpec.upto robotChargeSpec)

/-- 'carfaxlaw18.RobotNil', WHERE WHAT IT READS IS OF BULK AT MOST 1048576: true; the input reads as it did. -/
def robotNilUptoRow : OpenClaim := { program := "ytobpinelhjpfgaadoor", sum := "758a1bd87f7977423b4a254cd28726e819fce00b41ea5aefb2fe3110cabf3fb8", func := "carfax/carfaxlaw18.RobotNil", spec := "robotNil", unfollowed := true, recurses := true, named := ["carfax/record.shapes"], apart := false, laid := [("carfax/record.shapes", laid_carfax_record_shapes)], narrowed := true }
def RobotNilUptoSaid : Prop := robotNilUptoRow.holds Tryd.pinned (OpenSpec.upto robotNilSpec)

/-- 'carfaxlaw18.RobotStays', WHERE WHAT IT READS IS OF BULK AT MOST 1048576: true; the input reads as it did. -/
def robotStaysUptoRow : OpenClaim := { program := "ytobpinelhjpfgaadoor", sum := "758a1bd87f7977423b4a254cd28726e819fce00b41ea5aefb2fe3110cabf3fb8", func := "carfax/carfaxlaw18.RobotStays", spec := "robotStays", unfollowed := true, recurses := true, named := ["carfax/record.shapes"], apart := false, laid := [("carfax/record.shapes", laid_carfax_record_shapes)], narrowed := true }
def RobotStaysUptoSaid : Prop := robotStaysUptoRow.holds Tryd.pinned (OpenSpec.upto robotStaysSpec)

/-- 'carfaxtop.TopTold', WHERE WHAT IT READS IS OF BULK AT MOST 1048576: true; the input reads as it did. -/
def topToldUptoRow : OpenClaim := { program := "ytobpinelhjpfgaadoor", sum := "758a1bd87f7977423b4a254cd28726e819fce00b41ea5aefb2fe3110cabf3fb8", func := "carfax/carfaxtop.TopTold", spec := "topTold", unfollowed := true, recurses := true, named := ["carfax/record.shapes"], apart := false, laid := [("carfax/record.shapes", laid_carfax_record_shapes)], narrowed := true }
def TopToldUptoSaid : Prop := topToldUptoRow.holds Tryd.pinned (OpenSpec.upto topToldSpec)

end Rows
end Go.Proofs.YtobpinelhjpfgaaDoor
