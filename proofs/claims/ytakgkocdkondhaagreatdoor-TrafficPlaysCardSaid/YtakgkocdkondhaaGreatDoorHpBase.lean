/-
  A tree of entries in a list: above the places 2i + 1 and 2i + 2 is the place i; an entry settles up, or down.
  What a tree of entries has, in order: a list in which each is before all that stand behind it.
  The heap: which of two entries is before the other one, and where an entry has to go.
  The heap: an entry settles, up or down.
  The heap: made, asked how many there are, asked for the least.
  The heap: an item is pushed.
  The heap: the least item is taken out.
  The heap: the document's examples.
-/
import Derived.Test.YtakgkocdkondhaaGreatDoorRows
import Derived.Test.YtakgkocdkondhaaGreatDoorFrame
import Derived.WalkKit
import Derived.WalkSpells
import Derived.WalkLawsBesides
import Derived.RegionTactic
import Derived.Deep.QuietTactic
import Derived.BigQuiet
import Derived.StillTailTactics
import Derived.Maps.AppendAt
import Derived.Lib.Hide
import Derived.ChangeAlike
import Derived.Deep.AppendLies
import Derived.Deep.RegionLaw
import Derived.Deep.CutRange
import Derived.Deep.DeepCutAuto
import Derived.BigRegion
import Derived.WalkSmall
set_option linter.unusedVariables false
set_option maxRecDepth 100000
section
section
namespace Go.Proofs.YtakgkocdkondhaaGreatDoor

/-- An entry: its key, its value, and how many were pushed ahead of it. -/
structure E where
  k : Int
  v : Int
  t : Int
deriving DecidableEq
namespace E
/-- Is one before another one? -/
def lt (a b : E) : Bool := if a.k = b.k then decide (a.t < b.t) else decide (a.k < b.k)
def le (a b : E) : Prop := a.k < b.k ∨ (a.k = b.k ∧ a.t ≤ b.t)
end E
open E

/-- The entry at a place. -/
def gt (l : List E) (i : Nat) : E := l.getD i ⟨0, 0, 0⟩
/-- The entries at two places are exchanged. -/
def swp (l : List E) (i j : Nat) : List E := (l.set i (gt l j)).set j (gt l i)
/-- No entry is before the one above it. -/
def Hp (l : List E) : Prop := ∀ i, 0 < i → i < l.length → le (gt l ((i - 1) / 2)) (gt l i)
/-- Where an entry goes that is before the one above it. -/
def up (l : List E) (i : Nat) : Nat := if lt (gt l i) (gt l ((i - 1) / 2)) then (i - 1) / 2 else i
/-- The least of an entry's place and of so many places from one on. -/
def lst (l : List E) : Nat → Nat → Nat → Nat
  | a, _, 0 => a
  | a, f, k + 1 => lst l (if lt (gt l f) (gt l a) then f else a) (f + 1) k
/-- Where an entry goes that is not before those below it. -/
def dn (l : List E) (i : Nat) : Nat := lst l i (2 * i + 1) (min (2 * i + 3) l.length - (2 * i + 1))

inductive Stl (f : List E → Nat → Nat) : List E → Nat → List E → Prop
  | stop (l : List E) (i : Nat) (h : f l i = i) : Stl f l i l
  | step (l l' : List E) (i : Nat) (h : f l i ≠ i) (r : Stl f (swp l i (f l i)) (f l i) l') : Stl f l i l'

structure UpInv (l : List E) (i : Nat) : Prop where
  at_ : i < l.length
  all : ∀ j, 0 < j → j < l.length → j ≠ i → le (gt l ((j - 1) / 2)) (gt l j)
  sub : ∀ j, 0 < j → j < l.length → (j - 1) / 2 = i → 0 < i → le (gt l ((i - 1) / 2)) (gt l j)

structure DnInv (l : List E) (i : Nat) : Prop where
  all : ∀ j, 0 < j → j < l.length → (j - 1) / 2 ≠ i → le (gt l ((j - 1) / 2)) (gt l j)
  sub : ∀ j, 0 < j → j < l.length → (j - 1) / 2 = i → 0 < i → le (gt l ((i - 1) / 2)) (gt l j)

end Go.Proofs.YtakgkocdkondhaaGreatDoor
end

section
namespace Go.Proofs.YtakgkocdkondhaaGreatDoor
open E

/-- An entry is laid behind all whose keys are no greater. -/
def ins (x : E) : List E → List E
  | [] => [x]
  | a :: l => if a.k ≤ x.k then a :: ins x l else x :: a :: l
def Sorted (M : List E) : Prop := M.Pairwise fun a b => lt a b = true

/-- A tree has, in order, the entries M, of which each was pushed ahead of the n-th. -/
structure Abs (es M : List E) (n : Nat) : Prop where
  hp : Hp es
  perm : es.Perm M
  sorted : Sorted M
  turns : ∀ x ∈ M, x.t < (n : Int)

end Go.Proofs.YtakgkocdkondhaaGreatDoor
end
end

section
section
namespace Go.Proofs.YtakgkocdkondhaaGreatDoor
open Go.RowKit E


/-- An entry's cells, and the cells of many. -/
def e3 (x : E) : List Value := [.int .i64 x.k, .int .i64 x.v, .int .i64 x.t]
def ec : List E → List Value
  | [] => []
  | x :: l => e3 x ++ ec l
/-- An entry as a value. -/
def ev (x : E) : Value := .agg #[.int .i64 x.k, .int .i64 x.v, .int .i64 x.t]

/-- Whether something is so is told; nothing that was there is written. -/
def Tells (b : Bool) (w : World) (e : Ending) (w' : World) : Prop := e = .returned (.bool b) ∧ Below w.heap.size w w'
def TellsN (n : Nat) (w : World) (e : Ending) (w' : World) : Prop := e = .returned (.int .i64 (n : Int)) ∧ Below w.heap.size w w'





end Go.Proofs.YtakgkocdkondhaaGreatDoor
end

section
namespace Go.Proofs.YtakgkocdkondhaaGreatDoor
open Go.RowKit E



/-- Only the block of the tree is written. -/
def OnlyB (g : Nat) : Nat → Prop := fun k => k = g
end Go.Proofs.YtakgkocdkondhaaGreatDoor
end

section
namespace Go.Proofs.YtakgkocdkondhaaGreatDoor
open Go.RowKit E

/-- The heap's blocks. -/
def HF (b : Nat) (v : Value) : Nat → Prop := fun k => k = b ∨ v.ownBlock = some k




/-- An item and whether there is one. -/
def Item? (M : List E) : Value := match M with
  | [] => .tuple #[.agg #[.int .i64 0, .int .i64 0], .bool false]
  | m :: _ => .tuple #[.agg #[.int .i64 m.k, .int .i64 m.v], .bool true]



end Go.Proofs.YtakgkocdkondhaaGreatDoor
end

section
namespace Go.Proofs.YtakgkocdkondhaaGreatDoor
open Go.RowKit E






end Go.Proofs.YtakgkocdkondhaaGreatDoor
end

section
namespace Go.Proofs.YtakgkocdkondhaaGreatDoor
open Go.RowKit E


end Go.Proofs.YtakgkocdkondhaaGreatDoor
end

section
namespace Go.Proofs.YtakgkocdkondhaaGreatDoor
open Go.RowKit E




/-- What the example's heap has when so many were pushed, and when so many were taken out. -/
def sM : Nat → List E
  | 0 => []
  | 1 => [⟨3, 0, 0⟩]
  | 2 => [⟨1, 1, 1⟩, ⟨3, 0, 0⟩]
  | 3 => [⟨1, 1, 1⟩, ⟨3, 0, 0⟩, ⟨3, 2, 2⟩]
  | _ => [⟨1, 1, 1⟩, ⟨2, 3, 3⟩, ⟨3, 0, 0⟩, ⟨3, 2, 2⟩]
def sD : Nat → List E
  | 0 => [⟨1, 1, 1⟩, ⟨2, 3, 3⟩, ⟨3, 0, 0⟩, ⟨3, 2, 2⟩]
  | 1 => [⟨2, 3, 3⟩, ⟨3, 0, 0⟩, ⟨3, 2, 2⟩]
  | 2 => [⟨3, 0, 0⟩, ⟨3, 2, 2⟩]
  | 3 => [⟨3, 2, 2⟩]
  | _ => []


end Go.Proofs.YtakgkocdkondhaaGreatDoor
end
end
