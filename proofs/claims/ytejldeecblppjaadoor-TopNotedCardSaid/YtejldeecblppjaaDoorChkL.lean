/-
  The document's answers for layer 2: Scan, Same.
-/
import Derived.Test.YtejldeecblppjaaDoorCkThr
set_option linter.unusedVariables false
set_option maxRecDepth 100000
namespace Go.Proofs.YtejldeecblppjaaDoor
open Go.RowKit Bp Ck

theorem drawn_below {w w' : World} (h : Drawn w w') : Below w.heap.size w w' := by
  obtain ⟨q, rfl⟩ := h
  exact ⟨rfl, rfl, rfl, Nat.le_refl _, fun _ _ => rfl⟩
theorem Drawn.drew {w w' : World} (h : Drawn w w') : Drawn w w'.drew := by
  obtain ⟨q, rfl⟩ := h
  exact ⟨q + 1, rfl⟩


theorem noFrm_short (r : List Nat) (h : r.length < 4) : isFrm (ahd r) = false := by
  unfold ahd
  rw [if_pos h]
  decide
theorem noFrm_cut (r : List Nat) (h : r.length < 256 * r.getD 0 0 + r.getD 1 0 + 4) : isFrm (ahd r) = false := by
  by_cases h4 : r.length < 4
  · exact noFrm_short r h4
  · unfold ahd
    rw [if_neg h4, List.take_of_length_le (by omega)]
    unfold isFrm
    rw [beq_eq_false_iff_ne.2 (by omega : r.length ≠ 256 * r.getD 0 0 + r.getD 1 0 + 4)]
    simp


end Go.Proofs.YtejldeecblppjaaDoor
