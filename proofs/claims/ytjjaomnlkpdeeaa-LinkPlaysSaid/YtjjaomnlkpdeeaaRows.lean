/-
  No cell of these rows narrows 'for every input' (looked for: loops, veiled, ifaces, maps, wideKeys, modest, calm, conditions, laid).
  DERIVED. THE GIVEN ROWS OF THIS SEAT. 7 by the template 'for every input the law returns true; each argument reads behind the call as it read before'; 0 by the template 'total and deterministic' (their statements: YtjjaomnlkpdeeaaTotals.lean).
  GIVEN WITH THE SEED: the statements are not yours to turn. If you find one false, say at which input.
  Laid BY PROGRAM, IN A SANDBOX (cutbox-rows.mjs): the forced cells as the released guide's own fill.sh prints them over the translation 88a731af8ec9f30a… (all of the seat's roots in one cut). By AI agents, Wed Nov 11 2026. No macro, syntax, notation, axiom, sorry.
-/
import Derived.Test.YtjjaomnlkpdeeaaChecked
import GoSem.Claim
import GoSem.ClaimJoined
import GoSem.ClaimMapViews
import Derived.JoinedTies
import Derived.KernelRfl
namespace Go.Proofs.Ytjjaomnlkpdeeaa
/- THE CELL 'sum', in the pinned program and in every row, IS THE sha256 OF THE DUMP (.gsa) THAT YtjjaomnlkpdeeaaProg.lean LOADS. Nothing in Lean hashes anything: it is a label: what it is worth is what the hold of that sum in a sandbox is worth. -/
noncomputable def Try.pinned : Pinned := { name := "ytjjaomnlkpdeeaa", sum := "88a731af8ec9f30aa61de804017629c4e903407ea05b28ed735b74f9132a88b3", checked := Try.checked }
namespace Rows
def none {H : Type} : Left H := { results := [], args := [] }

/-- 'carfaxlaw14.LinkLays': WHATEVER THE INPUT: true; the input reads as it did. -/
def linkLaysSpec : ChangeSpec := { name := "linkLays", fn := fun _ => fun
  | [d] => { results := [.lit (.bool true)], args := [d] }
  | _ => none }
def linkLaysRow : OpenClaim := { program := "ytjjaomnlkpdeeaa", sum := "88a731af8ec9f30aa61de804017629c4e903407ea05b28ed735b74f9132a88b3", func := "carfax/carfaxlaw14.LinkLays", spec := "linkLays", unfollowed := true, recurses := true, apart := false }
def LinkLaysSaid : Prop := linkLaysRow.holds Try.pinned (OpenSpec.ofChange linkLaysSpec)

/-- ITS FALSE NEIGHBOUR: 'it returns false'. Refute it at one input. -/
def linkLaysWrong : ChangeSpec := { name := "linkLays", fn := fun _ => fun
  | [d] => { results := [.lit (.bool false)], args := [d] }
  | _ => none }
def LinkLaysWrongFalsely : Prop := linkLaysRow.holds Try.pinned (OpenSpec.ofChange linkLaysWrong)

/-- 'carfaxlaw14.LinkTakes': WHATEVER THE INPUT: true; the input reads as it did. -/
def linkTakesSpec : ChangeSpec := { name := "linkTakes", fn := fun _ => fun
  | [d] => { results := [.lit (.bool true)], args := [d] }
  | _ => none }
def linkTakesRow : OpenClaim := { program := "ytjjaomnlkpdeeaa", sum := "88a731af8ec9f30aa61de804017629c4e903407ea05b28ed735b74f9132a88b3", func := "carfax/carfaxlaw14.LinkTakes", spec := "linkTakes", unfollowed := true, recurses := true, apart := false }
def LinkTakesSaid : Prop := linkTakesRow.holds Try.pinned (OpenSpec.ofChange linkTakesSpec)

/-- ITS FALSE NEIGHBOUR: 'it returns false'. Refute it at one input. -/
def linkTakesWrong : ChangeSpec := { name := "linkTakes", fn := fun _ => fun
  | [d] => { results := [.lit (.bool false)], args := [d] }
  | _ => none }
def LinkTakesWrongFalsely : Prop := linkTakesRow.holds Try.pinned (OpenSpec.ofChange linkTakesWrong)

/-- 'carfaxlaw14.LinkBack': WHATEVER THE INPUT: true; the input reads as it did. -/
def linkBackSpec : ChangeSpec := { name := "linkBack", fn := fun _ => fun
  | [d1, d2] => { results := [.lit (.bool true)], args := [d1, d2] }
  | _ => none }
def linkBackRow : OpenClaim := { program := "ytjjaomnlkpdeeaa", sum := "88a731af8ec9f30aa61de804017629c4e903407ea05b28ed735b74f9132a88b3", func := "carfax/carfaxlaw14.LinkBack", spec := "linkBack", unfollowed := true, recurses := true, apart := false }
def LinkBackSaid : Prop := linkBackRow.holds Try.pinned (OpenSpec.ofChange linkBackSpec)

/-- ITS FALSE NEIGHBOUR: 'it returns false'. Refute it at one input. -/
def linkBackWrong : ChangeSpec := { name := "linkBack", fn := fun _ => fun
  | [d1, d2] => { results := [.lit (.bool false)], args := [d1, d2] }
  | _ => none }
def LinkBackWrongFalsely : Prop := linkBackRow.holds Try.pinned (OpenSpec.ofChange linkBackWrong)

/-- 'carfaxlaw14.LinkPlays': WHATEVER THE INPUT: true; the input reads as it did. -/
def linkPlaysSpec : ChangeSpec := { name := "linkPlays", fn := fun _ => fun
  | [d1, d2, d3] => { results := [.lit (.bool true)], args := [d1, d2, d3] }
  | _ => none }
def linkPlaysRow : OpenClaim := { program := "ytjjaomnlkpdeeaa", sum := "88a731af8ec9f30aa61de804017629c4e903407ea05b28ed735b74f9132a88b3", func := "carfax/carfaxlaw14.LinkPlays", spec := "linkPlays", unfollowed := true, recurses := true, apart := false }
def LinkPlaysSaid : Prop := linkPlaysRow.holds Try.pinned (OpenSpec.ofChange linkPlaysSpec)

/-- ITS FALSE NEIGHBOUR: 'it returns false'. Refute it at one input. -/
def linkPlaysWrong : ChangeSpec := { name := "linkPlays", fn := fun _ => fun
  | [d1, d2, d3] => { results := [.lit (.bool false)], args := [d1, d2, d3] }
  | _ => none }
def LinkPlaysWrongFalsely : Prop := linkPlaysRow.holds Try.pinned (OpenSpec.ofChange linkPlaysWrong)

/-- 'carfaxlaw14.LinkOnce': WHATEVER THE INPUT: true; the input reads as it did. -/
def linkOnceSpec : ChangeSpec := { name := "linkOnce", fn := fun _ => fun
  | [d] => { results := [.lit (.bool true)], args := [d] }
  | _ => none }
def linkOnceRow : OpenClaim := { program := "ytjjaomnlkpdeeaa", sum := "88a731af8ec9f30aa61de804017629c4e903407ea05b28ed735b74f9132a88b3", func := "carfax/carfaxlaw14.LinkOnce", spec := "linkOnce", unfollowed := true, recurses := true, apart := false }
def LinkOnceSaid : Prop := linkOnceRow.holds Try.pinned (OpenSpec.ofChange linkOnceSpec)

/-- ITS FALSE NEIGHBOUR: 'it returns false'. Refute it at one input. -/
def linkOnceWrong : ChangeSpec := { name := "linkOnce", fn := fun _ => fun
  | [d] => { results := [.lit (.bool false)], args := [d] }
  | _ => none }
def LinkOnceWrongFalsely : Prop := linkOnceRow.holds Try.pinned (OpenSpec.ofChange linkOnceWrong)

/-- 'carfaxlaw14.LinkHeard': WHATEVER THE INPUT: true; the input reads as it did. -/
def linkHeardSpec : ChangeSpec := { name := "linkHeard", fn := fun _ => fun
  | [d1, d2] => { results := [.lit (.bool true)], args := [d1, d2] }
  | _ => none }
def linkHeardRow : OpenClaim := { program := "ytjjaomnlkpdeeaa", sum := "88a731af8ec9f30aa61de804017629c4e903407ea05b28ed735b74f9132a88b3", func := "carfax/carfaxlaw14.LinkHeard", spec := "linkHeard", unfollowed := true, recurses := true, apart := false }
def LinkHeardSaid : Prop := linkHeardRow.holds Try.pinned (OpenSpec.ofChange linkHeardSpec)

/-- ITS FALSE NEIGHBOUR: 'it returns false'. Refute it at one input. -/
def linkHeardWrong : ChangeSpec := { name := "linkHeard", fn := fun _ => fun
  | [d1, d2] => { results := [.lit (.bool false)], args := [d1, d2] }
  | _ => none }
def LinkHeardWrongFalsely : Prop := linkHeardRow.holds Try.pinned (OpenSpec.ofChange linkHeardWrong)

/-- 'carfaxlaw14.LinkTurned': WHATEVER THE INPUT: true; the input reads as it did. -/
def linkTurnedSpec : ChangeSpec := { name := "linkTurned", fn := fun _ => fun
  | [d1, d2, d3, d4] => { results := [.lit (.bool true)], args := [d1, d2, d3, d4] }
  | _ => none }
def linkTurnedRow : OpenClaim := { program := "ytjjaomnlkpdeeaa", sum := "88a731af8ec9f30aa61de804017629c4e903407ea05b28ed735b74f9132a88b3", func := "carfax/carfaxlaw14.LinkTurned", spec := "linkTurned", unfollowed := true, recurses := true, apart := false }
def LinkTurnedSaid : Prop := linkTurnedRow.holds Try.pinned (OpenSpec.ofChange linkTurnedSpec)

/-- ITS FALSE NEIGHBOUR: 'it returns false'. Refute it at one input. -/
def linkTurnedWrong : ChangeSpec := { name := "linkTurned", fn := fun _ => fun
  | [d1, d2, d3, d4] => { results := [.lit (.bool false)], args := [d1, d2, d3, d4] }
  | _ => none }
def LinkTurnedWrongFalsely : Prop := linkTurnedRow.holds Try.pinned (OpenSpec.ofChange linkTurnedWrong)

/- THE SECOND FORM. 'bulk': how many values and letters a reading holds, each counted each time it is reached (what is shared counts as often as it is met; a slice's spare places count too). A statement '..UptoSaid' is the law's where the arguments, and the package variables that the reading takes, are together of bulk at most 1048576: NARROWER than '..Said'. Prove '..Said' where nothing that the law and all that it calls make is longer than what came in: it says more and counts as full. Else prove '..UptoSaid'. A law counts once. -/
mutual
def uptoBulk {H : Type} : DataW H → Nat
  | .lit (.string bytes) => bytes.length + 1
  | .lit _ => 1
  | .nil => 1
  | .ptr d => uptoBulk d + 1
  | .slice elems spare => uptoBulkAll elems + uptoBulkAll spare + 1
  | .agg parts => uptoBulkAll parts + 1
  | .iface _ d => uptoBulk d + 1
  | .map entries => uptoBulkEntries entries + 1
  | .held _ => 1
def uptoBulkAll {H : Type} : List (DataW H) → Nat
  | [] => 0
  | d :: r => uptoBulk d + uptoBulkAll r
def uptoBulkEntries {H : Type} : List (Lit × DataW H) → Nat
  | [] => 0
  | x :: r => uptoBulkEntry x + uptoBulkEntries r
def uptoBulkEntry {H : Type} : Lit × DataW H → Nat
  | (.string bytes, d) => bytes.length + uptoBulk d + 1
  | (_, d) => uptoBulk d + 1
 end
def uptoSmall : (H : Type) → List (DataW H) → Bool := fun _ ds => decide (uptoBulkAll ds ≤ 1048576)
def OpenSpec.upto (s : _root_.Go.ChangeSpec) : _root_.Go.OpenSpec := { _root_.Go.OpenSpec.ofChange s with cond := some uptoSmall }

/-- 'carfaxlaw14.LinkLays', WHERE WHAT IT READS IS OF BULK AT MOST 1048576: true; the input reads as it did. -/
def linkLaysUptoRow : OpenClaim := { program := "ytjjaomnlkpdeeaa", sum := "88a731af8ec9f30aa61de804017629c4e903407ea05b28ed735b74f9132a88b3", func := "carfax/carfaxlaw14.LinkLays", spec := "linkLays", unfollowed := true, recurses := true, apart := false, narrowed := true }
def LinkLaysUptoSaid : Prop := linkLaysUptoRow.holds Try.pinned (OpenSpec.upto linkLaysSpec)

/-- 'carfaxlaw14.LinkTakes', WHERE WHAT IT READS IS OF BULK AT MOST 1048576: true; the input reads as it did. -/
def linkTakesUptoRow : OpenClaim := { program := "ytjjaomnlkpdeeaa", sum := "88a731af8ec9f30aa61de804017629c4e903407ea05b28ed735b74f9132a88b3", func := "carfax/carfaxlaw14.LinkTakes", spec := "linkTakes", unfollowed := true, recurses := true, apart := false, narrowed := true }
def LinkTakesUptoSaid : Prop := linkTakesUptoRow.holds Try.pinned (OpenSpec.upto linkTakesSpec)

/-- 'carfaxlaw14.LinkBack', WHERE WHAT IT READS IS OF BULK AT MOST 1048576: true; the input reads as it did. -/
def linkBackUptoRow : OpenClaim := { program := "ytjjaomnlkpdeeaa", sum := "88a731af8ec9f30aa61de804017629c4e903407ea05b28ed735b74f9132a88b3", func := "carfax/carfaxlaw14.LinkBack", spec := "linkBack", unfollowed := true, recurses := true, apart := false, narrowed := true }
def LinkBackUptoSaid : Prop := linkBackUptoRow.holds Try.pinned (OpenSpec.upto linkBackSpec)

/-- 'carfaxlaw14.LinkPlays', WHERE WHAT IT READS IS OF BULK AT MOST 1048576: true; the input reads as it did. -/
def linkPlaysUptoRow : OpenClaim := { program := "ytjjaomnlkpdeeaa", sum := "88a731af8ec9f30aa61de804017629c4e903407ea05b28ed735b74f9132a88b3", func := "carfax/carfaxlaw14.LinkPlays", spec := "linkPlays", unfollowed := true, recurses := true, apart := false, narrowed := true }
def LinkPlaysUptoSaid : Prop := linkPlaysUptoRow.holds Try.pinned (OpenSpec.upto linkPlaysSpec)

/-- 'carfaxlaw14.LinkOnce', WHERE WHAT IT READS IS OF BULK AT MOST 1048576: true; the input reads as it did. -/
def linkOnceUptoRow : OpenClaim := { program := "ytjjaomnlkpdeeaa", sum := "88a731af8ec9f30aa61de804017629c4e903407ea05b28ed735b74f9132a88b3", func := "carfax/carfaxlaw14.LinkOnce", spec := "linkOnce", unfollowed := true, recurses := true, apart := false, narrowed := true }
def LinkOnceUptoSaid : Prop := linkOnceUptoRow.holds Try.pinned (OpenSpec.upto linkOnceSpec)

/-- 'carfaxlaw14.LinkHeard', WHERE WHAT IT READS IS OF BULK AT MOST 1048576: true; the input reads as it did. -/
def linkHeardUptoRow : OpenClaim := { program := "ytjjaomnlkpdeeaa", sum := "88a731af8ec9f30aa61de804017629c4e903407ea05b28ed735b74f9132a88b3", func := "carfax/carfaxlaw14.LinkHeard", spec := "linkHeard", unfollowed := true, recurses := true, apart := false, narrowed := true }
def LinkHeardUptoSaid : Prop := linkHeardUptoRow.holds Try.pinned (OpenSpec.upto linkHeardSpec)

/-- 'carfaxlaw14.LinkTurned', WHERE WHAT IT READS IS OF BULK AT MOST 1048576: true; the input reads as it did. -/
def linkTurnedUptoRow : OpenClaim := { program := "ytjjaomnlkpdeeaa", sum := "88a731af8ec9f30aa61de804017629c4e903407ea05b28ed735b74f9132a88b3", func := "carfax/carfaxlaw14.LinkTurned", spec := "linkTurned", unfollowed := true, recurses := true, apart := false, narrowed := true }
def LinkTurnedUptoSaid : Prop := linkTurnedUptoRow.holds Try.pinned (OpenSpec.upto linkTurnedSpec)

end Rows
end Go.Proofs.Ytjjaomnlkpdeeaa
