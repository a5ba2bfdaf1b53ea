/-
  NARROWER THAN 'FOR EVERY INPUT', by the rows' own cells (each row's printed sentence says how): RecordLays: laid · RecordTakes: laid · RecordActs: laid · RecordBack: laid · RecordCut: laid · RecordLong: laid · TopNoted: laid.
  DERIVED. THE GIVEN ROWS OF THIS SEAT. 7 by the template 'for every input the law returns true; each argument reads behind the call as it read before'; 0 by the template 'total and deterministic' (their statements: YtejldeecblppjaaDoorTotals.lean).
  GIVEN WITH THE SEED: the statements are not yours to turn. If you find one false, say at which input.
  Laid BY PROGRAM, IN A SANDBOX (cutbox-rows.mjs): the forced cells as the released guide's own fill.sh prints them over the translation 0598dfc4157fef6f… (all of the seat's roots in one cut). By AI agents, Wed Nov 11 2026. No macro, syntax, notation, axiom, sorry.
-/
import Derived.Test.YtejldeecblppjaaDoorChecked
import GoSem.Claim
import GoSem.ClaimJoined
import GoSem.ClaimMapViews
import Derived.JoinedTies
import Derived.KernelRfl
namespace Go.Proofs.YtejldeecblppjaaDoor
/- THE CELL 'sum', in the pinned program and in every row, IS THE sha256 OF THE DUMP (.gsa) THAT YtejldeecblppjaaDoorProg.lean LOADS. Nothing in Lean hashes anything: it is a label: what it is worth is what the hold of that sum in a sandbox is worth. -/
noncomputable def Tryd.pinned : Pinned := { name := "ytejldeecblppjaadoor", sum := "0598dfc4157fef6f8bf87bfb58a71425e76a5ad99e7a3297c62050b1d1a5f80a", checked := Tryd.checked }
namespace Rows
def none {H : Type} : Left H := { results := [], args := [] }

/- WHAT THE LISTED PACKAGE-LEVEL VARIABLES READ AS WHEN THE CALL BEGINS. Each datum BY PROGRAM (the guide's laid-datum.mjs) off the statement by which the dump's own 'gosem.cut.vars' lays the variable. In a bare row this is a premise. The card (YtejldeecblppjaaDoorCards.lean) ties it to the program's text. -/
def laid_carfax_record_shapes {H : Type} : DataW H := .agg [.agg [.lit (.int .i64 1073741824), .lit (.int .i64 0)], .agg [.lit (.int .i64 7), .lit (.int .i64 3)], .agg [.lit (.int .i64 63), .lit (.int .i64 6)], .agg [.lit (.int .i64 255), .lit (.int .i64 8)], .agg [.lit (.int .i64 5), .lit (.int .i64 3)]]

/-- 'carfaxlaw17.RecordLays': WHATEVER THE INPUT: true; the input reads as it did. -/
def recordLaysSpec : ChangeSpec := { name := "recordLays", fn := fun _ => fun
  | [d] => { results := [.lit (.bool true)], args := [d] }
  | _ => none }
def recordLaysRow : OpenClaim := { program := "ytejldeecblppjaadoor", sum := "0598dfc4157fef6f8bf87bfb58a71425e76a5ad99e7a3297c62050b1d1a5f80a", func := "carfax/carfaxlaw17.RecordLays", spec := "recordLays", unfollowed := true, recurses := true, named := ["carfax/record.shapes"], apart := false, laid := [("carfax/record.shapes", laid_carfax_record_shapes)] }
def RecordLaysSaid : Prop := recordLaysRow.holds Tryd.pinned (OpenSpec.ofChange recordLaysSpec)

/-- ITS FALSE NEIGHBOUR: 'it returns false'. Refute it at one input. -/
def recordLaysWrong : ChangeSpec := { name := "recordLays", fn := fun _ => fun
  | [d] => { results := [.lit (.bool false)], args := [d] }
  | _ => none }
def RecordLaysWrongFalsely : Prop := recordLaysRow.holds Tryd.pinned (OpenSpec.ofChange recordLaysWrong)

/-- 'carfaxlaw17.RecordTakes': WHATEVER THE INPUT: true; the input reads as it did. -/
def recordTakesSpec : ChangeSpec := { name := "recordTakes", fn := fun _ => fun
  | [d] => { results := [.lit (.bool true)], args := [d] }
  | _ => none }
def recordTakesRow : OpenClaim := { program := "ytejldeecblppjaadoor", sum := "0598dfc4157fef6f8bf87bfb58a71425e76a5ad99e7a3297c62050b1d1a5f80a", func := "carfax/carfaxlaw17.RecordTakes", spec := "recordTakes", unfollowed := true, recurses := true, named := ["carfax/record.shapes"], apart := false, laid := [("carfax/record.shapes", laid_carfax_record_shapes)] }
def RecordTakesSaid : Prop := recordTakesRow.holds Tryd.pinned (OpenSpec.ofChange recordTakesSpec)

/-- ITS FALSE NEIGHBOUR: 'it returns false'. Refute it at one input. -/
def recordTakesWrong : ChangeSpec := { name := "recordTakes", fn := fun _ => fun
  | [d] => { results := [.lit (.bool false)], args := [d] }
  | _ => none }
def RecordTakesWrongFalsely : Prop := recordTakesRow.holds Tryd.pinned (OpenSpec.ofChange recordTakesWrong)

/-- 'carfaxlaw17.RecordActs': WHATEVER THE INPUT: true; the input reads as it did. -/
def recordActsSpec : ChangeSpec := { name := "recordActs", fn := fun _ => fun
  | [d] => { results := [.lit (.bool true)], args := [d] }
  | _ => none }
def recordActsRow : OpenClaim := { program := "ytejldeecblppjaadoor", sum := "0598dfc4157fef6f8bf87bfb58a71425e76a5ad99e7a3297c62050b1d1a5f80a", func := "carfax/carfaxlaw17.RecordActs", spec := "recordActs", unfollowed := true, recurses := true, named := ["carfax/record.shapes"], apart := false, laid := [("carfax/record.shapes", laid_carfax_record_shapes)] }
def RecordActsSaid : Prop := recordActsRow.holds Tryd.pinned (OpenSpec.ofChange recordActsSpec)

/-- ITS FALSE NEIGHBOUR: 'it returns false'. Refute it at one input. -/
def recordActsWrong : ChangeSpec := { name := "recordActs", fn := fun _ => fun
  | [d] => { results := [.lit (.bool false)], args := [d] }
  | _ => none }
def RecordActsWrongFalsely : Prop := recordActsRow.holds Tryd.pinned (OpenSpec.ofChange recordActsWrong)

/-- 'carfaxlaw17.RecordBack': WHATEVER THE INPUT: true; the input reads as it did. -/
def recordBackSpec : ChangeSpec := { name := "recordBack", fn := fun _ => fun
  | [d1, d2] => { results := [.lit (.bool true)], args := [d1, d2] }
  | _ => none }
def recordBackRow : OpenClaim := { program := "ytejldeecblppjaadoor", sum := "0598dfc4157fef6f8bf87bfb58a71425e76a5ad99e7a3297c62050b1d1a5f80a", func := "carfax/carfaxlaw17.RecordBack", spec := "recordBack", unfollowed := true, recurses := true, named := ["carfax/record.shapes"], apart := false, laid := [("carfax/record.shapes", laid_carfax_record_shapes)] }
def RecordBackSaid : Prop := recordBackRow.holds Tryd.pinned (OpenSpec.ofChange recordBackSpec)

/-- ITS FALSE NEIGHBOUR: 'it returns false'. Refute it at one input. -/
def recordBackWrong : ChangeSpec := { name := "recordBack", fn := fun _ => fun
  | [d1, d2] => { results := [.lit (.bool false)], args := [d1, d2] }
  | _ => none }
def RecordBackWrongFalsely : Prop := recordBackRow.holds Tryd.pinned (OpenSpec.ofChange recordBackWrong)

/-- 'carfaxlaw17.RecordCut': WHATEVER THE INPUT: true; the input reads as it did. -/
def recordCutSpec : ChangeSpec := { name := "recordCut", fn := fun _ => fun
  | [d1, d2, d3] => { results := [.lit (.bool true)], args := [d1, d2, d3] }
  | _ => none }
def recordCutRow : OpenClaim := { program := "ytejldeecblppjaadoor", sum := "0598dfc4157fef6f8bf87bfb58a71425e76a5ad99e7a3297c62050b1d1a5f80a", func := "carfax/carfaxlaw17.RecordCut", spec := "recordCut", unfollowed := true, recurses := true, named := ["carfax/record.shapes"], apart := false, laid := [("carfax/record.shapes", laid_carfax_record_shapes)] }
def RecordCutSaid : Prop := recordCutRow.holds Tryd.pinned (OpenSpec.ofChange recordCutSpec)

/-- ITS FALSE NEIGHBOUR: 'it returns false'. Refute it at one input. -/
def recordCutWrong : ChangeSpec := { name := "recordCut", fn := fun _ => fun
  | [d1, d2, d3] => { results := [.lit (.bool false)], args := [d1, d2, d3] }
  | _ => none }
def RecordCutWrongFalsely : Prop := recordCutRow.holds Tryd.pinned (OpenSpec.ofChange recordCutWrong)

/-- 'carfaxlaw17.RecordLong': WHATEVER THE INPUT: true; the input reads as it did. -/
def recordLongSpec : ChangeSpec := { name := "recordLong", fn := fun _ => fun
  | [d] => { results := [.lit (.bool true)], args := [d] }
  | _ => none }
def recordLongRow : OpenClaim := { program := "ytejldeecblppjaadoor", sum := "0598dfc4157fef6f8bf87bfb58a71425e76a5ad99e7a3297c62050b1d1a5f80a", func := "carfax/carfaxlaw17.RecordLong", spec := "recordLong", unfollowed := true, recurses := true, named := ["carfax/record.shapes"], apart := false, laid := [("carfax/record.shapes", laid_carfax_record_shapes)] }
def RecordLongSaid : Prop := recordLongRow.holds Tryd.pinned (OpenSpec.ofChange recordLongSpec)

/-- ITS FALSE NEIGHBOUR: 'it returns false'. Refute it at one input. -/
def recordLongWrong : ChangeSpec := { name := "recordLong", fn := fun _ => fun
  | [d] => { results := [.lit (.bool false)], args := [d] }
  | _ => none }
def RecordLongWrongFalsely : Prop := recordLongRow.holds Tryd.pinned (OpenSpec.ofChange recordLongWrong)

/-- 'carfaxtop.TopNoted': WHATEVER THE INPUT: true; the input reads as it did. -/
def topNotedSpec : ChangeSpec := { name := "topNoted", fn := fun _ => fun
  | [d1, d2, d3] => { results := [.lit (.bool true)], args := [d1, d2, d3] }
  | _ => none }
def topNotedRow : OpenClaim := { program := "ytejldeecblppjaadoor", sum := "0598dfc4157fef6f8bf87bfb58a71425e76a5ad99e7a3297c62050b1d1a5f80a", func := "carfax/carfaxtop.TopNoted", spec := "topNoted", unfollowed := true, recurses := true, named := ["carfax/record.shapes"], apart := false, laid := [("carfax/record.shapes", laid_carfax_record_shapes)] }
def TopNotedSaid : Prop := topNotedRow.holds Tryd.pinned (OpenSpec.ofChange topNotedSpec)

/-- ITS FALSE NEIGHBOUR: 'it returns false'. Refute it at one input. -/
def topNotedWrong : ChangeSpec := { name := "topNoted", fn := fun _ => fun
  | [d1, d2, d3] => { results := [.lit (.bool false)], args := [d1, d2, d3] }
  | _ => none }
def TopNotedWrongFalsely : Prop := topNotedRow.holds Tryd.pinned (OpenSpec.ofChange topNotedWrong)

/- THE SECOND FORM. 'bulk': how many values and letters a reading holds, each counted each time it is reached (what is shared counts as often as it is met; a slice's spare places count too). A statement '..UptoSaid' is the law's where the arguments, and the package variables that the reading takes, are together of bulk at most 1048576: NARROWER than '..Said'. Prove '..Said' where nothing that the law and all that it calls make is longer than what came in: it says more and counts as full. Else prove '..UptoSaid'. A law counts once. -/
mutual
def uptoBulk {H : Type} : DataW H → Nat
  | .lit (.string bytes) => bytes.length + 1
  | .lit _ => 1
  | .nil => 1
  | .ptr d => uptoBulk d + 1
  | .slice elems spare => uptoBulkAll elems + uptoBulkAll spare + 1
  | .agg parts => uptoBulkAll parts + 1
  | .iface _ d => uptoBulk d + 1
  | .map entries => uptoBulkEntries entries + 1
  | .held _ => 1
def uptoBulkAll {H : Type} : List (DataW H) → Nat
  | [] => 0
  | d :: r => uptoBulk d + uptoBulkAll r
def uptoBulkEntries {H : Type} : List (Lit × DataW H) → Nat
  | [] => 0
  | x :: r => uptoBulkEntry x + uptoBulkEntries r
def uptoBulkEntry {H : Type} : Lit × DataW H → Nat
  | (.string bytes, d) => bytes.length + uptoBulk d + 1
  | (_, d) => uptoBulk d + 1
 end
def uptoSmall : (H : Type) → List (DataW H) → Bool := fun _ ds => decide (uptoBulkAll ds ≤ 1048576)
def OpenSpec.upto (s : _root_.Go.ChangeSpec) : _root_.Go.OpenSpec := { _root_.Go.OpenSpec.ofChange s with cond := some uptoSmall }

/-- 'carfaxlaw17.RecordLays', WHERE WHAT IT READS IS OF BULK AT MOST 1048576: true; the input reads as it did. -/
def recordLaysUptoRow : OpenClaim := { program := "ytejldeecblppjaadoor", sum := "0598dfc4157fef6f8bf87bfb58a71425e76a5ad99e7a3297c62050b1d1a5f80a", func := "carfax/carfaxlaw17.RecordLays", spec := "recordLays", unfollowed := true, recurses := true, named := ["carfax/record.shapes"], apart := false, laid := [("carfax/record.shapes", laid_carfax_record_shapes)], narrowed := true }
def RecordLaysUptoSaid : Prop := recordLaysUptoRow.holds Tryd.pinned (OpenSpec.upto recordLaysSpec)

/-- 'carfaxlaw17.RecordTakes', WHERE WHAT IT READS IS OF BULK AT MOST 1048576: true; the input reads as it did. -/
def recordTakesUptoRow : OpenClaim := { program := "ytejldeecblppjaadoor", sum := "0598dfc4157fef6f8bf87bfb58a71425e76a5ad99e7a3297c62050b1d1a5f80a", func := "carfax/carfaxlaw17.RecordTakes", spec := "recordTakes", unfollowed := true, recurses := true, named := ["carfax/record.shapes"], apart := false, laid := [("carfax/record.shapes", laid_carfax_record_shapes)], narrowed := true }
def RecordTakesUptoSaid : Prop := recordTakesUptoRow.holds Tryd.pinned (OpenSpec.upto recordTakesSpec)

/-- 'carfaxlaw17.RecordActs', WHERE WHAT IT READS IS OF BULK AT MOST 1048576: true; the input reads as it did. -/
def recordActsUptoRow : OpenClaim := { program := "ytejldeecblppjaadoor", sum := "0598dfc4157fef6f8bf87bfb58a71425e76a5ad99e7a3297c62050b1d1a5f80a", func := "carfax/carfaxlaw17.RecordActs", spec := "recordActs", unfollowed := true, recurses := true, named := ["carfax/record.shapes"], apart := false, laid := [("carfax/record.shapes", laid_carfax_record_shapes)], narrowed := true }
def RecordActsUptoSaid : Prop := recordActsUptoRow.holds Tryd.pinned (OpenSpec.upto recordActsSpec)

/-- 'carfaxlaw17.RecordBack', WHERE WHAT IT READS IS OF BULK AT MOST 1048576: true; the input reads as it did. -/
def recordBackUptoRow : OpenClaim := { program := "ytejldeecblppjaadoor", sum := "0598dfc4157fef6f8bf87bfb58a71425e76a5ad99e7a3297c62050b1d1a5f80a", func := "carfax/carfaxlaw17.RecordBack", spec := "recordBack", unfollowed := true, recurses := true, named := ["carfax/record.shapes"], apart := false, laid := [("carfax/record.shapes", laid_carfax_record_shapes)], narrowed := true }
def RecordBackUptoSaid : Prop := recordBackUptoRow.holds Tryd.pinned (OpenSpec.upto recordBackSpec)

/-- 'carfaxlaw17.RecordCut', WHERE WHAT IT READS IS OF BULK AT MOST 1048576: true; the input reads as it did. -/
def recordCutUptoRow : OpenClaim := { program := "ytejldeecblppjaadoor", sum := "0598dfc4157fef6f8bf87bfb58a71425e76a5ad99e7a3297c62050b1d1a5f80a", func := "carfax/carfaxlaw17.RecordCut", spec := "recordCut", unfollowed := true, recurses := true, named := ["carfax/record.shapes"], apart := false, laid := [("carfax/record.shapes", laid_carfax_record_shapes)], narrowed := true }
def RecordCutUptoSaid : Prop := recordCutUptoRow.holds Tryd.pinned (OpenSpec.upto recordCutSpec)

/-- 'carfaxlaw17.RecordLong', WHERE WHAT IT READS IS OF BULK AT MOST 1048576: true; the input reads as it did. -/
def recordLongUptoRow : OpenClaim := { program := "ytejldeecblppjaadoor", sum := "0598dfc4157fef6f8bf87bfb58a71425e76a5ad99e7a3297c62050b1d1a5f80a", func := "carfax/carfaxlaw17.RecordLong", spec := "recordLong", unfollowed := true, recurses := true, named := ["carfax/record.shapes"], apart := false, laid := [("carfax/record.shapes", laid_carfax_record_shapes)], narrowed := true }
def RecordLongUptoSaid : Prop := recordLongUptoRow.holds Tryd.pinned (OpenSpec.upto recordLongSpec)

/-- 'carfaxtop.TopNoted', WHERE WHAT IT READS IS OF BULK AT MOST 1048576: true; the input reads as it did. -/
def topNotedUptoRow : OpenClaim := { program := "ytejldeecblppjaadoor", sum := "0598dfc4157fef6f8bf87bfb58a71425e76a5ad99e7a3297c62050b1d1a5f80a", func := "carfax/carfaxtop.TopNoted", spec := "topNoted", unfollowed := true, recurses := true, named := ["carfax/record.shapes"], apart := false, laid := [("carfax/record.shapes", laid_carfax_record_shapes)], narrowed := true }
def TopNotedUptoSaid : Prop := topNotedUptoRow.holds Tryd.pinned (OpenSpec.upto topNotedSpec)

end Rows
end Go.Proofs.YtejldeecblppjaaDoor
