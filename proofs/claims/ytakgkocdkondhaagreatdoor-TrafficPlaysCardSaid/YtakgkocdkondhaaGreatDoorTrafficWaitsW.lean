/-
  The walk of TrafficWaits.
-/
import Derived.Test.YtakgkocdkondhaaGreatDoorTfS
set_option linter.unusedVariables false
set_option maxRecDepth 100000
namespace Go.Proofs.YtakgkocdkondhaaGreatDoor
namespace Tf
open Go.RowKit Fl Tr Pt
open Bk (Cm hold need Cl Lt MayP may_any)
open Lk (Ow T0 zns at9)

end Tf
end Go.Proofs.YtakgkocdkondhaaGreatDoor
