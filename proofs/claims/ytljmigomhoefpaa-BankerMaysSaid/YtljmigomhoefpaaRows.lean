/-
  No cell of these rows narrows 'for every input' (looked for: loops, veiled, ifaces, maps, wideKeys, modest, calm, conditions, laid).
  DERIVED. THE GIVEN ROWS OF THIS SEAT. 7 by the template 'for every input the law returns true; each argument reads behind the call as it read before'; 0 by the template 'total and deterministic' (their statements: YtljmigomhoefpaaTotals.lean).
  GIVEN WITH THE SEED: the statements are not yours to turn. If you find one false, say at which input.
  Laid BY PROGRAM, IN A SANDBOX (cutbox-rows.mjs): the forced cells as the released guide's own fill.sh prints them over the translation f252661a6419d539… (all of the seat's roots in one cut). By AI agents, Wed Nov 11 2026. No macro, syntax, notation, axiom, sorry.
-/
import Derived.Test.YtljmigomhoefpaaChecked
import GoSem.Claim
import GoSem.ClaimJoined
import GoSem.ClaimMapViews
import Derived.JoinedTies
import Derived.KernelRfl
namespace Go.Proofs.Ytljmigomhoefpaa
/- THE CELL 'sum', in the pinned program and in every row, IS THE sha256 OF THE DUMP (.gsa) THAT YtljmigomhoefpaaProg.lean LOADS. Nothing in Lean hashes anything: it is a label: what it is worth is what the hold of that sum in a sandbox is worth. -/
noncomputable def Try.pinned : Pinned := { name := "ytljmigomhoefpaa", sum := "f252661a6419d539bfc419b9df36ff9a337974190f83b475229e18a8f2614bfb", checked := Try.checked }
namespace Rows
def none {H : Type} : Left H := { results := [], args := [] }

/-- 'carfaxlaw08.BankerOrders': WHATEVER THE INPUT: true; the input reads as it did. -/
def bankerOrdersSpec : ChangeSpec := { name := "bankerOrders", fn := fun _ => fun
  | [d] => { results := [.lit (.bool true)], args := [d] }
  | _ => none }
def bankerOrdersRow : OpenClaim := { program := "ytljmigomhoefpaa", sum := "f252661a6419d539bfc419b9df36ff9a337974190f83b475229e18a8f2614bfb", func := "carfax/carfaxlaw08.BankerOrders", spec := "bankerOrders", unfollowed := true, recurses := true, apart := false }
def BankerOrdersSaid : Prop := bankerOrdersRow.holds Try.pinned (OpenSpec.ofChange bankerOrdersSpec)

/-- ITS FALSE NEIGHBOUR: 'it returns false'. Refute it at one input. -/
def bankerOrdersWrong : ChangeSpec := { name := "bankerOrders", fn := fun _ => fun
  | [d] => { results := [.lit (.bool false)], args := [d] }
  | _ => none }
def BankerOrdersWrongFalsely : Prop := bankerOrdersRow.holds Try.pinned (OpenSpec.ofChange bankerOrdersWrong)

/-- 'carfaxlaw08.BankerMays': WHATEVER THE INPUT: true; the input reads as it did. -/
def bankerMaysSpec : ChangeSpec := { name := "bankerMays", fn := fun _ => fun
  | [d1, d2, d3] => { results := [.lit (.bool true)], args := [d1, d2, d3] }
  | _ => none }
def bankerMaysRow : OpenClaim := { program := "ytljmigomhoefpaa", sum := "f252661a6419d539bfc419b9df36ff9a337974190f83b475229e18a8f2614bfb", func := "carfax/carfaxlaw08.BankerMays", spec := "bankerMays", unfollowed := true, recurses := true, apart := false }
def BankerMaysSaid : Prop := bankerMaysRow.holds Try.pinned (OpenSpec.ofChange bankerMaysSpec)

/-- ITS FALSE NEIGHBOUR: 'it returns false'. Refute it at one input. -/
def bankerMaysWrong : ChangeSpec := { name := "bankerMays", fn := fun _ => fun
  | [d1, d2, d3] => { results := [.lit (.bool false)], args := [d1, d2, d3] }
  | _ => none }
def BankerMaysWrongFalsely : Prop := bankerMaysRow.holds Try.pinned (OpenSpec.ofChange bankerMaysWrong)

/-- 'carfaxlaw08.BankerIs': WHATEVER THE INPUT: true; the input reads as it did. -/
def bankerIsSpec : ChangeSpec := { name := "bankerIs", fn := fun _ => fun
  | [d] => { results := [.lit (.bool true)], args := [d] }
  | _ => none }
def bankerIsRow : OpenClaim := { program := "ytljmigomhoefpaa", sum := "f252661a6419d539bfc419b9df36ff9a337974190f83b475229e18a8f2614bfb", func := "carfax/carfaxlaw08.BankerIs", spec := "bankerIs", unfollowed := true, recurses := true, apart := false }
def BankerIsSaid : Prop := bankerIsRow.holds Try.pinned (OpenSpec.ofChange bankerIsSpec)

/-- ITS FALSE NEIGHBOUR: 'it returns false'. Refute it at one input. -/
def bankerIsWrong : ChangeSpec := { name := "bankerIs", fn := fun _ => fun
  | [d] => { results := [.lit (.bool false)], args := [d] }
  | _ => none }
def BankerIsWrongFalsely : Prop := bankerIsRow.holds Try.pinned (OpenSpec.ofChange bankerIsWrong)

/-- 'carfaxlaw08.BankerFirst': WHATEVER THE INPUT: true; the input reads as it did. -/
def bankerFirstSpec : ChangeSpec := { name := "bankerFirst", fn := fun _ => fun
  | [d] => { results := [.lit (.bool true)], args := [d] }
  | _ => none }
def bankerFirstRow : OpenClaim := { program := "ytljmigomhoefpaa", sum := "f252661a6419d539bfc419b9df36ff9a337974190f83b475229e18a8f2614bfb", func := "carfax/carfaxlaw08.BankerFirst", spec := "bankerFirst", unfollowed := true, recurses := true, apart := false }
def BankerFirstSaid : Prop := bankerFirstRow.holds Try.pinned (OpenSpec.ofChange bankerFirstSpec)

/-- ITS FALSE NEIGHBOUR: 'it returns false'. Refute it at one input. -/
def bankerFirstWrong : ChangeSpec := { name := "bankerFirst", fn := fun _ => fun
  | [d] => { results := [.lit (.bool false)], args := [d] }
  | _ => none }
def BankerFirstWrongFalsely : Prop := bankerFirstRow.holds Try.pinned (OpenSpec.ofChange bankerFirstWrong)

/-- 'carfaxlaw08.BankerLess': WHATEVER THE INPUT: true; the input reads as it did. -/
def bankerLessSpec : ChangeSpec := { name := "bankerLess", fn := fun _ => fun
  | [d] => { results := [.lit (.bool true)], args := [d] }
  | _ => none }
def bankerLessRow : OpenClaim := { program := "ytljmigomhoefpaa", sum := "f252661a6419d539bfc419b9df36ff9a337974190f83b475229e18a8f2614bfb", func := "carfax/carfaxlaw08.BankerLess", spec := "bankerLess", unfollowed := true, recurses := true, apart := false }
def BankerLessSaid : Prop := bankerLessRow.holds Try.pinned (OpenSpec.ofChange bankerLessSpec)

/-- ITS FALSE NEIGHBOUR: 'it returns false'. Refute it at one input. -/
def bankerLessWrong : ChangeSpec := { name := "bankerLess", fn := fun _ => fun
  | [d] => { results := [.lit (.bool false)], args := [d] }
  | _ => none }
def BankerLessWrongFalsely : Prop := bankerLessRow.holds Try.pinned (OpenSpec.ofChange bankerLessWrong)

/-- 'carfaxlaw08.BankerGoes': WHATEVER THE INPUT: true; the input reads as it did. -/
def bankerGoesSpec : ChangeSpec := { name := "bankerGoes", fn := fun _ => fun
  | [d] => { results := [.lit (.bool true)], args := [d] }
  | _ => none }
def bankerGoesRow : OpenClaim := { program := "ytljmigomhoefpaa", sum := "f252661a6419d539bfc419b9df36ff9a337974190f83b475229e18a8f2614bfb", func := "carfax/carfaxlaw08.BankerGoes", spec := "bankerGoes", unfollowed := true, recurses := true, apart := false }
def BankerGoesSaid : Prop := bankerGoesRow.holds Try.pinned (OpenSpec.ofChange bankerGoesSpec)

/-- ITS FALSE NEIGHBOUR: 'it returns false'. Refute it at one input. -/
def bankerGoesWrong : ChangeSpec := { name := "bankerGoes", fn := fun _ => fun
  | [d] => { results := [.lit (.bool false)], args := [d] }
  | _ => none }
def BankerGoesWrongFalsely : Prop := bankerGoesRow.holds Try.pinned (OpenSpec.ofChange bankerGoesWrong)

/-- 'carfaxlaw08.BankerTurned': WHATEVER THE INPUT: true; the input reads as it did. -/
def bankerTurnedSpec : ChangeSpec := { name := "bankerTurned", fn := fun _ => fun
  | [d1, d2] => { results := [.lit (.bool true)], args := [d1, d2] }
  | _ => none }
def bankerTurnedRow : OpenClaim := { program := "ytljmigomhoefpaa", sum := "f252661a6419d539bfc419b9df36ff9a337974190f83b475229e18a8f2614bfb", func := "carfax/carfaxlaw08.BankerTurned", spec := "bankerTurned", unfollowed := true, recurses := true, apart := false }
def BankerTurnedSaid : Prop := bankerTurnedRow.holds Try.pinned (OpenSpec.ofChange bankerTurnedSpec)

/-- ITS FALSE NEIGHBOUR: 'it returns false'. Refute it at one input. -/
def bankerTurnedWrong : ChangeSpec := { name := "bankerTurned", fn := fun _ => fun
  | [d1, d2] => { results := [.lit (.bool false)], args := [d1, d2] }
  | _ => none }
def BankerTurnedWrongFalsely : Prop := bankerTurnedRow.holds Try.pinned (OpenSpec.ofChange bankerTurnedWrong)

/- THE SECOND FORM. 'bulk': how many values and letters a reading holds, each counted each time it is reached (what is shared counts as often as it is met; a slice's spare places count too). A statement '..UptoSaid' is the law's where the arguments, and the package variables that the reading takes, are together of bulk at most 1048576: NARROWER than '..Said'. Prove '..Said' where nothing that the law and all that it calls make is longer than what came in: it says more and counts as full. Else prove '..UptoSaid'. A law counts once. -/
mutual
def uptoBulk {H : Type} : DataW H → Nat
  | .lit (.string bytes) => bytes.length + 1
  | .lit _ => 1
  | .nil => 1
  | .ptr d => uptoBulk d + 1
  | .slice elems spare => uptoBulkAll elems + uptoBulkAll spare + 1
  | .agg parts => uptoBulkAll parts + 1
  | .iface _ d => uptoBulk d + 1
  | .map entries => uptoBulkEntries entries + 1
  | .held _ => 1
def uptoBulkAll {H : Type} : List (DataW H) → Nat
  | [] => 0
  | d :: r => uptoBulk d + uptoBulkAll r
def uptoBulkEntries {H : Type} : List (Lit × DataW H) → Nat
  | [] => 0
  | x :: r => uptoBulkEntry x + uptoBulkEntries r
def uptoBulkEntry {H : Type} : Lit × DataW H → Nat
  | (.string bytes, d) => bytes.length + uptoBulk d + 1
  | (_, d) => uptoBulk d + 1
 end
def uptoSmall : (H : Type) → List (DataW H) → Bool := fun _ ds => decide (uptoBulkAll ds ≤ 1048576)
def OpenSpec.upto (s : _root_.Go.ChangeSpec) : _root_.Go.OpenSpec := { _root_.Go.OpenSpec.ofChange s with cond := some uptoSmall }

/-- 'carfaxlaw08.BankerOrders', WHERE WHAT IT READS IS OF BULK AT MOST 1048576: true; the input reads as it did. -/
def bankerOrdersUptoRow : OpenClaim := { program := "ytljmigomhoefpaa", sum := "f252661a6419d539bfc419b9df36ff9a337974190f83b475229e18a8f2614bfb", func := "carfax/carfaxlaw08.BankerOrders", spec := "bankerOrders", unfollowed := true, recurses := true, apart := false, narrowed := true }
def BankerOrdersUptoSaid : Prop := bankerOrdersUptoRow.holds Try.pinned (OpenSpec.upto bankerOrdersSpec)

/-- 'carfaxlaw08.BankerMays', WHERE WHAT IT READS IS OF BULK AT MOST 1048576: true; the input reads as it did. -/
def bankerMaysUptoRow : OpenClaim := { program := "ytljmigomhoefpaa", sum := "f252661a6419d539bfc419b9df36ff9a337974190f83b475229e18a8f2614bfb", func := "carfax/carfaxlaw08.BankerMays", spec := "bankerMays", unfollowed := true, recurses := true, apart := false, narrowed := true }
def BankerMaysUptoSaid : Prop := bankerMaysUptoRow.holds Try.pinned (OpenSpec.upto bankerMaysSpec)

/-- 'carfaxlaw08.BankerIs', WHERE WHAT IT READS IS OF BULK AT MOST 1048576: true; the input reads as it did. -/
def bankerIsUptoRow : OpenClaim := { program := "ytljmigomhoefpaa", sum := "f252661a6419d539bfc419b9df36ff9a337974190f83b475229e18a8f2614bfb", func := "carfax/carfaxlaw08.BankerIs", spec := "bankerIs", unfollowed := true, recurses := true, apart := false, narrowed := true }
def BankerIsUptoSaid : Prop := bankerIsUptoRow.holds Try.pinned (OpenSpec.upto bankerIsSpec)

/-- 'carfaxlaw08.BankerFirst', WHERE WHAT IT READS IS OF BULK AT MOST 1048576: true; the input reads as it did. -/
def bankerFirstUptoRow : OpenClaim := { program := "ytljmigomhoefpaa", sum := "f252661a6419d539bfc419b9df36ff9a337974190f83b475229e18a8f2614bfb", func := "carfax/carfaxlaw08.BankerFirst", spec := "bankerFirst", unfollowed := true, recurses := true, apart := false, narrowed := true }
def BankerFirstUptoSaid : Prop := bankerFirstUptoRow.holds Try.pinned (OpenSpec.upto bankerFirstSpec)

/-- 'carfaxlaw08.BankerLess', WHERE WHAT IT READS IS OF BULK AT MOST 1048576: true; the input reads as it did. -/
def bankerLessUptoRow : OpenClaim := { program := "ytljmigomhoefpaa", sum := "f252661a6419d539bfc419b9df36ff9a337974190f83b475229e18a8f2614bfb", func := "carfax/carfaxlaw08.BankerLess", spec := "bankerLess", unfollowed := true, recurses := true, apart := false, narrowed := true }
def BankerLessUptoSaid : Prop := bankerLessUptoRow.holds Try.pinned (OpenSpec.upto bankerLessSpec)

/-- 'carfaxlaw08.BankerGoes', WHERE WHAT IT READS IS OF BULK AT MOST 1048576: true; the input reads as it did. -/
def bankerGoesUptoRow : OpenClaim := { program := "ytljmigomhoefpaa", sum := "f252661a6419d539bfc419b9df36ff9a337974190f83b475229e18a8f2614bfb", func := "carfax/carfaxlaw08.BankerGoes", spec := "bankerGoes", unfollowed := true, recurses := true, apart := false, narrowed := true }
def BankerGoesUptoSaid : Prop := bankerGoesUptoRow.holds Try.pinned (OpenSpec.upto bankerGoesSpec)

/-- 'carfaxlaw08.BankerTurned', WHERE WHAT IT READS IS OF BULK AT MOST 1048576: true; the input reads as it did. -/
def bankerTurnedUptoRow : OpenClaim := { program := "ytljmigomhoefpaa", sum := "f252661a6419d539bfc419b9df36ff9a337974190f83b475229e18a8f2614bfb", func := "carfax/carfaxlaw08.BankerTurned", spec := "bankerTurned", unfollowed := true, recurses := true, apart := false, narrowed := true }
def BankerTurnedUptoSaid : Prop := bankerTurnedUptoRow.holds Try.pinned (OpenSpec.upto bankerTurnedSpec)

end Rows
end Go.Proofs.Ytljmigomhoefpaa
