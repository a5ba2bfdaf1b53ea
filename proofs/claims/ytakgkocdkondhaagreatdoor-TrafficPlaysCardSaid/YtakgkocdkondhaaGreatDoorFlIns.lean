/-
  A map literal's entry; lanes that can be reached from a dock.
-/
import Derived.Test.YtakgkocdkondhaaGreatDoorFlOne
import Derived.Test.YtakgkocdkondhaaGreatDoorFlPlain
set_option linter.unusedVariables false
set_option maxRecDepth 100000
namespace Go.Proofs.YtakgkocdkondhaaGreatDoor
open Go.RowKit Fl Go.Maps

section
variable {P : Program} (w : World) {ops : Array Oper} {rest : List Oper} {o : Oper} {a : Act} {Q : Exit → Act → World → Prop} {k : TypeId} {R : Value → Option (DataW Unit × List MemPlace)} {u : DataW Unit} {b n : Nat} {l : List Nat}
end

end Go.Proofs.YtakgkocdkondhaaGreatDoor
