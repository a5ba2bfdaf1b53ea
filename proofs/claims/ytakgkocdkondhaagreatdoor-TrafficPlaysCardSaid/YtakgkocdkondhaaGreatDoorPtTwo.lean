/-
  Layer 5: the document's examples; lists that are the same, of whatever make.
  PathBack: the walk.
  Layer 5: lists of integers that came in; the first so many of them; lists laid one behind the other.
-/
import Derived.Test.YtakgkocdkondhaaGreatDoorPtFind
import Derived.Test.YtakgkocdkondhaaGreatDoorFlTwo
import Derived.Test.YtakgkocdkondhaaGreatDoorFlRa
import Derived.Deep.RegionHeld3
import Derived.BigQuiet
import Derived.Laws.AppendOwnNone
import Derived.ProofKit
import Derived.OpenShut
set_option linter.unusedVariables false
set_option maxRecDepth 100000
section
namespace Go.Proofs.YtakgkocdkondhaaGreatDoor
open Go.RowKit Fl Pt

/-- Two lists are the same. -/
def SameAt (n m : Nat) (f g : Nat → Int) : Prop := n = m ∧ ∀ j, j < n → f j = g j
/-! ### The floor of the examples -/
def s5 : ByteArray := ⟨#[48, 97, 97, 98, 49, 10, 35, 99, 35, 100, 35, 10, 50, 101, 101, 102, 102, 10]⟩
def c5 : ByteArray := ⟨#[48, 97, 97, 98, 49, 35, 99, 35, 100, 35, 50, 101, 101, 102, 102]⟩
def B0 : Nat → Bool := mk (fun _ => 0) 0
def B2 : Nat → Bool := mk (fun _ => 2) 1
def E1 (x : Nat) : Nat := [4, 3, 2, 1, 0, 50, 4, 50, 2, 50, 50, 5, 4, 3, 4].getD x 50
def E2 (x : Nat) : Nat := [8, 7, 2, 1, 0, 50, 6, 50, 2, 50, 50, 5, 4, 3, 4].getD x 50
def E3 (x : Nat) : Nat := [4, 3, 4, 5, 50, 50, 2, 50, 4, 50, 0, 1, 2, 3, 4].getD x 50
end Go.Proofs.YtakgkocdkondhaaGreatDoor
end

section
namespace Go.Proofs.YtakgkocdkondhaaGreatDoor
open Go.RowKit Fl Pt

def at3 (a b c : Int) : Nat → Int
  | 0 => a
  | 1 => b
  | _ => c
def LaneD (W H : Nat) (s : ByteArray) (a : Nat) (w : World) (e : Ending) (w' : World) : Prop :=
  ∃ A cap, ∃ F : List Int, e = .returned (.slice A s.size cap) ∧ Il w'.heap.size w' A s.size cap (fun j => F.getD j 0) ∧ Below w.heap.size w w' ∧ Hid (∀ x, x < s.size → IsD (nx5 W H (at_ s) a fun _ => false) a x (F.getD x 0))

end Go.Proofs.YtakgkocdkondhaaGreatDoor
end

section
namespace Go.Proofs.YtakgkocdkondhaaGreatDoor
open Go.RowKit Fl Pt Go.ChangeShapes Go.WideShapes Go.ChangeAt

def IW (x : Int) : Prop := -9223372036854775808 ≤ x ∧ x ≤ 9223372036854775807
def iz (l : List Int) : List Value := l.map fun n => Value.int .i64 n
/-- The list of integers xs is owned at v. -/
def OwnI (w : World) (base : Nat) (v : Value) (xs : List Int) : Prop := w.ownsRow base 3 1 v xs.length (iz xs)
end Go.Proofs.YtakgkocdkondhaaGreatDoor
end
