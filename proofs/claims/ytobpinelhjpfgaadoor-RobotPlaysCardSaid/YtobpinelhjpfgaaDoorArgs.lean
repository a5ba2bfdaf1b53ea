/-
  What a walk is told of a slice that came in.
-/
import Derived.Test.YtobpinelhjpfgaaDoorFrame
import Derived.WalkKit
set_option linter.unusedVariables false
set_option maxRecDepth 100000
namespace Go.Proofs.YtobpinelhjpfgaaDoor
open Go.RowKit

/-- A slice that came in, 'len' elements long, of one cell each: element i holds 'enc (l i)'. -/
structure ArgIn {α : Type} (enc : α → Value) (w : World) (ao : Option Addr) (len cap : Nat) (l : Nat → α) : Prop where
  nil : ao = none → len = 0 ∧ cap = 0
  le : len ≤ cap
  max : cap ≤ maxLen
  cell : ∀ i, i < len → ∃ g off, ao = some ⟨g, off, none⟩ ∧ g < w.heap.size ∧ w.cell? ⟨g, off + i, none⟩ = some (enc (l i))

/-- A slice that came in, of elements of k cells each: cell j of element i holds 'c i j'. -/
structure ArgRows (k : Nat) (c : Nat → Nat → Value) (w : World) (ao : Option Addr) (len cap : Nat) : Prop where
  nil : ao = none → len = 0 ∧ cap = 0
  le : len ≤ cap
  max : cap ≤ maxLen
  cell : ∀ i, i < len → ∃ g off, ao = some ⟨g, off, none⟩ ∧ g < w.heap.size ∧ ∀ j, j < k → w.cell? ⟨g, off + i * k + j, none⟩ = some (c i j)

end Go.Proofs.YtobpinelhjpfgaaDoor
