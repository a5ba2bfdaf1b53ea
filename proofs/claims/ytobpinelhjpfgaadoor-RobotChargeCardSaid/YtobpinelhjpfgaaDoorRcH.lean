/-
  Layer 17: the document's examples; what was laid as bytes.
-/
import Derived.Test.YtobpinelhjpfgaaDoorRcG
set_option linter.unusedVariables false
set_option maxRecDepth 100000
namespace Go.Proofs.YtobpinelhjpfgaaDoor
namespace Rc
open Go.RowKit Bp Ck
theorem LayTold.own {w w' : World} {zs : List Nat} {e : Ending} (h : LayTold w zs e w') (hz : ∀ z ∈ zs, z ≤ 255) : ∃ A cp, e = .returned (.tuple #[.slice A zs.length cp, .int .i64 0]) ∧ By w'.heap.size w' A zs.length cp zs ∧ Below w.heap.size w w' := by
  obtain ⟨A, cp, rfl, ho, hb⟩ := h
  exact ⟨A, cp, rfl, By.own ho hz, hb⟩
theorem by_later {B : Nat} {w w' : World} {A : Option Addr} {n cap : Nat} {zs : List Nat} (h : By B w A n cap zs) (hB : B ≤ w.heap.size) (hb : Below w.heap.size w w') : By B w' A n cap zs := h.below (hb.mono hB)
theorem ex_rec : pack (kb 3 5 (fl 5) (natN (five 0 5 0 0 0))) = [180] := by decide
theorem ex_act : pack (kb 2 1 [3, 2] (natN (five 0 0 0 7 0))) = [65, 192] := by decide
end Rc
end Go.Proofs.YtobpinelhjpfgaaDoor
