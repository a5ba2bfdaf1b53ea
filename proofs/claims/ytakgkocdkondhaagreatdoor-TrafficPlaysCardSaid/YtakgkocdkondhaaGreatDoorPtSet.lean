/-
  Layer 5: a map of truths whose keys are any numbers: made, put, asked.
-/
import Derived.Test.YtakgkocdkondhaaGreatDoorPtTwo
import Derived.Test.YtakgkocdkondhaaGreatDoorPtRa
import Derived.Test.YtakgkocdkondhaaGreatDoorFlIns
import Derived.Deep.RegionHeld3
import Derived.BigQuiet
set_option linter.unusedVariables false
set_option maxRecDepth 100000
namespace Go.Proofs.YtakgkocdkondhaaGreatDoor
open Go.RowKit Fl Pt Go.Maps

theorem IW_nat {n : Nat} (h : n ≤ 1000000) : IW (n : Int) := by unfold IW; omega
def kI (x : Int) : Lit := .int .i64 x
theorem kI_inj {x y : Int} (h : kI x = kI y) : x = y := by simpa [kI] using h
theorem kI_key (x : Int) : WideAt.IsKeyLit (kI x) := trivial
/-- Block b is a map of truths; m tells which numbers are in it. -/
def SetI (w : World) (b n : Nat) (m : Int → Bool) : Prop :=
  ∃ D : DataW Unit, w.ownsMap Tryz.prog 3 (plainElem Tryz.prog 4) b n D ∧ ∀ x : Int, has D (kI x) = m x ∧ (m x = true → ∀ z, D.atKey (kI x) z = .lit (.bool true))
section
variable (w : World) {ops : Array Oper} {rest : List Oper} {o : Oper} {a : Act} {Q : Exit → Act → World → Prop} {b n : Nat} {m : Int → Bool}
end
end Go.Proofs.YtakgkocdkondhaaGreatDoor
