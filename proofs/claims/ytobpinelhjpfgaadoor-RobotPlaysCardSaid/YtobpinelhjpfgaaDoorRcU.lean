/-
  Layer 17: the document's Take.
-/
import Derived.Test.YtobpinelhjpfgaaDoorRcT
import Derived.Laws.ResultCell
set_option linter.unusedVariables false
set_option maxRecDepth 100000
namespace Go.Proofs.YtobpinelhjpfgaaDoor
namespace Rc
open Go.RowKit Bp Ck
theorem Sx.sep {w : World} {t : TypeId} {zero : Array Value} {C b : Nat} {v : Value} {X : Nat} {zs : List Nat} {p : Nat} {e : Int} {cs : Array Value} {W : World} (h : Sx w t zero C b v X zs p e cs W) : w.heap.size < X := by
  have hb : RF b v b := .inl rfl
  have := h.apart b hb
  omega
end Rc
end Go.Proofs.YtobpinelhjpfgaaDoor
