/-
  Layer 10: a trip, step by step.
-/
import Derived.Test.YtakgkocdkondhaaGreatDoorTrL
set_option linter.unusedVariables false
set_option maxRecDepth 100000
namespace Go.Proofs.YtakgkocdkondhaaGreatDoor
namespace Tr
open Go.RowKit Fl Pt
open Bk (Gt)

/-- Where a robot is ahead of a step of a trip, act by act: the step is near, not blocked; to a lane just where it isn't the last; the last one is to the dock. -/
structure StepOk (W H : Int) (s : ByteArray) (B : Nat → Bool) (d : Nat) (L : List Ac) (i : Nat) : Prop where
  on : OnFloor W H s (plA (L.take i) (d : Int))
  step : (L.getD i (0, 0, 0)).1 = 1 → ∃ c : Nat, (L.getD i (0, 0, 0)).2.1 = (c : Int) ∧ nearB W H s (plA (L.take i) (d : Int)) (c : Int) = true ∧ B c = false ∧ (if i + 1 = L.length then laneB s (c : Int) = false ∧ c = d else laneB s (c : Int) = true)
end Tr
end Go.Proofs.YtakgkocdkondhaaGreatDoor
