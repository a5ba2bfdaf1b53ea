/-
  The lists of layer 1's statements, opened for a walk.
-/
import Derived.Test.YtobpinelhjpfgaaDoorArgsS
set_option linter.unusedVariables false
namespace Go.Proofs.YtobpinelhjpfgaaDoor
open Go.ChangeShapes Go.WideShapes Go.ChangeAt Go.RowKit Go.Deep

/-- What is laid: a number in so many bits, or a count, in its three cells. -/
def putCell (f : Nat → Bool × Nat × Int) (i j : Nat) : Value := if j = 0 then .bool (f i).1 else if j = 1 then .int .u64 ((f i).2.1 : Int) else .int .i64 (f i).2.2
/-- What is taken: a number of so many bits, or a count, in its two cells. -/
def takeCell (f : Nat → Bool × Int) (i j : Nat) : Value := if j = 0 then .bool (f i).1 else .int .i64 (f i).2
end Go.Proofs.YtobpinelhjpfgaaDoor
