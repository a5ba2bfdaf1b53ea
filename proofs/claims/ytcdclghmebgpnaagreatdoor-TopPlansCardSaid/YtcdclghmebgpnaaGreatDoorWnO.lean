/-
  Layer 6: Forget and Drop of whatever; any act.
-/
import Derived.Test.YtcdclghmebgpnaaGreatDoorWnM
set_option linter.unusedVariables false
set_option maxRecDepth 100000
namespace Go.Proofs.YtcdclghmebgpnaaGreatDoor.Wn
open Go.RowKit Go.Maps

/-- Drop: what comes of it for the cell's windows. -/
def dr (L : List (Int × Int)) (a b : Int) : Int × List (Int × Int) :=
  if plc L a < L.length ∧ L.getD (plc L a) (0, 0) = (a, b) then (0, L.take (plc L a) ++ L.drop (plc L a + 1)) else (2, L)
theorem dr_ord {L : List (Int × Int)} {a b : Int} (h : Ordw 0 L) : Ordw 0 (dr L a b).2 := by
  unfold dr
  split
  · exact h.del _ _ (Nat.le_succ _)
  · exact h
theorem fg_ord {f : Int} {L : List (Int × Int)} (m : Int) (h : Ordw f L) : Ordw f (fg L m) := by
  have := h.del 0 (plc L m) (Nat.zero_le _)
  unfold fg
  simpa using this
end Go.Proofs.YtcdclghmebgpnaaGreatDoor.Wn
