/-
  Layer 6: the document's table: Is, Free.
-/
import Derived.Test.YtinkpeliinofoaaDoorWnT
set_option linter.unusedVariables false
set_option maxRecDepth 100000
namespace Go.Proofs.YtinkpeliinofoaaDoor.Wn
open Go.RowKit Go.Maps

theorem frees_end (L : List (Int × Int)) : frees L = gaps 0 L ++ if lastTo 0 L < 1048576 then [(lastTo 0 L, 1048576)] else [] := gaps_snoc (1048576, 0) L 0
end Go.Proofs.YtinkpeliinofoaaDoor.Wn
