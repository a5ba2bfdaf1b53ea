/-
  A slice of bytes that came in, opened for a walk.
-/
import Derived.Test.YtbpcigcfdkamaaaArgs
import Derived.Test.YtbpcigcfdkamaaaRows
import Derived.ProofKit
import Derived.OpenShut
set_option linter.unusedVariables false
set_option maxRecDepth 100000
namespace Go.Proofs.Ytbpcigcfdkamaaa
open Go.ChangeShapes Go.WideShapes Go.ChangeAt Go.RowKit

theorem plain_addr {w : World} {x : Addr} {v : Value} (h : w.cell? (x.add 0) = some v) : ∃ g off, x = ⟨g, off, none⟩ ∧ g < w.heap.size := by
  obtain ⟨g, off, spot⟩ := x
  have e0 : (Addr.add ⟨g, off, spot⟩ 0) = ⟨g, off, spot⟩ := by simp [Addr.add]
  rw [e0] at h
  have hs : spot = none := World.cell?_spot h
  subst hs
  exact ⟨g, off, rfl, World.block_lt_of_cell? w _ h⟩
theorem plain_add (g off i : Nat) : (Addr.add ⟨g, off, none⟩ i) = ⟨g, off + i, none⟩ := by unfold Addr.add; split <;> simp_all

end Go.Proofs.Ytbpcigcfdkamaaa
