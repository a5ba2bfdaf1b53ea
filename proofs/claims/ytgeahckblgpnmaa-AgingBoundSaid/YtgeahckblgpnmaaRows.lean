/-
  No cell of these rows narrows 'for every input' (looked for: loops, veiled, ifaces, maps, wideKeys, modest, calm, conditions, laid).
  DERIVED. THE GIVEN ROWS OF THIS SEAT. 6 by the template 'for every input the law returns true; each argument reads behind the call as it read before'; 0 by the template 'total and deterministic' (their statements: YtgeahckblgpnmaaTotals.lean).
  GIVEN WITH THE SEED: the statements are not yours to turn. If you find one false, say at which input.
  Laid BY PROGRAM, IN A SANDBOX (cutbox-rows.mjs): the forced cells as the released guide's own fill.sh prints them over the translation a4946d5e9f5a7d44… (all of the seat's roots in one cut). By AI agents, Wed Nov 11 2026. No macro, syntax, notation, axiom, sorry.
-/
import Derived.Test.YtgeahckblgpnmaaChecked
import GoSem.Claim
import GoSem.ClaimJoined
import GoSem.ClaimMapViews
import Derived.JoinedTies
import Derived.KernelRfl
namespace Go.Proofs.Ytgeahckblgpnmaa
/- THE CELL 'sum', in the pinned program and in every row, IS THE sha256 OF THE DUMP (.gsa) THAT YtgeahckblgpnmaaProg.lean LOADS. Nothing in Lean hashes anything: it is a label: what it is worth is what the hold of that sum in a sandbox is worth. -/
noncomputable def Try.pinned : Pinned := { name := "ytgeahckblgpnmaa", sum := "a4946d5e9f5a7d44cfacc2702bd3746c4bc9c9fa5e78ba619a16a5f284ac4fda", checked := Try.checked }
namespace Rows
def none {H : Type} : Left H := { results := [], args := [] }

/-- 'carfaxlaw12.AgingPlays': WHATEVER THE INPUT: true; the input reads as it did. -/
def agingPlaysSpec : ChangeSpec := { name := "agingPlays", fn := fun _ => fun
  | [d1, d2] => { results := [.lit (.bool true)], args := [d1, d2] }
  | _ => none }
def agingPlaysRow : OpenClaim := { program := "ytgeahckblgpnmaa", sum := "a4946d5e9f5a7d44cfacc2702bd3746c4bc9c9fa5e78ba619a16a5f284ac4fda", func := "carfax/carfaxlaw12.AgingPlays", spec := "agingPlays", unfollowed := true, recurses := true, apart := false }
def AgingPlaysSaid : Prop := agingPlaysRow.holds Try.pinned (OpenSpec.ofChange agingPlaysSpec)

/-- ITS FALSE NEIGHBOUR: 'it returns false'. Refute it at one input. -/
def agingPlaysWrong : ChangeSpec := { name := "agingPlays", fn := fun _ => fun
  | [d1, d2] => { results := [.lit (.bool false)], args := [d1, d2] }
  | _ => none }
def AgingPlaysWrongFalsely : Prop := agingPlaysRow.holds Try.pinned (OpenSpec.ofChange agingPlaysWrong)

/-- 'carfaxlaw12.AgingBound': WHATEVER THE INPUT: true; the input reads as it did. -/
def agingBoundSpec : ChangeSpec := { name := "agingBound", fn := fun _ => fun
  | [d1, d2] => { results := [.lit (.bool true)], args := [d1, d2] }
  | _ => none }
def agingBoundRow : OpenClaim := { program := "ytgeahckblgpnmaa", sum := "a4946d5e9f5a7d44cfacc2702bd3746c4bc9c9fa5e78ba619a16a5f284ac4fda", func := "carfax/carfaxlaw12.AgingBound", spec := "agingBound", unfollowed := true, recurses := true, apart := false }
def AgingBoundSaid : Prop := agingBoundRow.holds Try.pinned (OpenSpec.ofChange agingBoundSpec)

/-- ITS FALSE NEIGHBOUR: 'it returns false'. Refute it at one input. -/
def agingBoundWrong : ChangeSpec := { name := "agingBound", fn := fun _ => fun
  | [d1, d2] => { results := [.lit (.bool false)], args := [d1, d2] }
  | _ => none }
def AgingBoundWrongFalsely : Prop := agingBoundRow.holds Try.pinned (OpenSpec.ofChange agingBoundWrong)

/-- 'carfaxlaw12.AgingLike': WHATEVER THE INPUT: true; the input reads as it did. -/
def agingLikeSpec : ChangeSpec := { name := "agingLike", fn := fun _ => fun
  | [d1, d2] => { results := [.lit (.bool true)], args := [d1, d2] }
  | _ => none }
def agingLikeRow : OpenClaim := { program := "ytgeahckblgpnmaa", sum := "a4946d5e9f5a7d44cfacc2702bd3746c4bc9c9fa5e78ba619a16a5f284ac4fda", func := "carfax/carfaxlaw12.AgingLike", spec := "agingLike", unfollowed := true, recurses := true, apart := false }
def AgingLikeSaid : Prop := agingLikeRow.holds Try.pinned (OpenSpec.ofChange agingLikeSpec)

/-- ITS FALSE NEIGHBOUR: 'it returns false'. Refute it at one input. -/
def agingLikeWrong : ChangeSpec := { name := "agingLike", fn := fun _ => fun
  | [d1, d2] => { results := [.lit (.bool false)], args := [d1, d2] }
  | _ => none }
def AgingLikeWrongFalsely : Prop := agingLikeRow.holds Try.pinned (OpenSpec.ofChange agingLikeWrong)

/-- 'carfaxlaw12.AgingAll': WHATEVER THE INPUT: true; the input reads as it did. -/
def agingAllSpec : ChangeSpec := { name := "agingAll", fn := fun _ => fun
  | [d1, d2] => { results := [.lit (.bool true)], args := [d1, d2] }
  | _ => none }
def agingAllRow : OpenClaim := { program := "ytgeahckblgpnmaa", sum := "a4946d5e9f5a7d44cfacc2702bd3746c4bc9c9fa5e78ba619a16a5f284ac4fda", func := "carfax/carfaxlaw12.AgingAll", spec := "agingAll", unfollowed := true, recurses := true, apart := false }
def AgingAllSaid : Prop := agingAllRow.holds Try.pinned (OpenSpec.ofChange agingAllSpec)

/-- ITS FALSE NEIGHBOUR: 'it returns false'. Refute it at one input. -/
def agingAllWrong : ChangeSpec := { name := "agingAll", fn := fun _ => fun
  | [d1, d2] => { results := [.lit (.bool false)], args := [d1, d2] }
  | _ => none }
def AgingAllWrongFalsely : Prop := agingAllRow.holds Try.pinned (OpenSpec.ofChange agingAllWrong)

/-- 'carfaxlaw12.AgingNext': WHATEVER THE INPUT: true; the input reads as it did. -/
def agingNextSpec : ChangeSpec := { name := "agingNext", fn := fun _ => fun
  | [d1, d2] => { results := [.lit (.bool true)], args := [d1, d2] }
  | _ => none }
def agingNextRow : OpenClaim := { program := "ytgeahckblgpnmaa", sum := "a4946d5e9f5a7d44cfacc2702bd3746c4bc9c9fa5e78ba619a16a5f284ac4fda", func := "carfax/carfaxlaw12.AgingNext", spec := "agingNext", unfollowed := true, recurses := true, apart := false }
def AgingNextSaid : Prop := agingNextRow.holds Try.pinned (OpenSpec.ofChange agingNextSpec)

/-- ITS FALSE NEIGHBOUR: 'it returns false'. Refute it at one input. -/
def agingNextWrong : ChangeSpec := { name := "agingNext", fn := fun _ => fun
  | [d1, d2] => { results := [.lit (.bool false)], args := [d1, d2] }
  | _ => none }
def AgingNextWrongFalsely : Prop := agingNextRow.holds Try.pinned (OpenSpec.ofChange agingNextWrong)

/-- 'carfaxlaw12.AgingDrops': WHATEVER THE INPUT: true; the input reads as it did. -/
def agingDropsSpec : ChangeSpec := { name := "agingDrops", fn := fun _ => fun
  | [d1, d2, d3] => { results := [.lit (.bool true)], args := [d1, d2, d3] }
  | _ => none }
def agingDropsRow : OpenClaim := { program := "ytgeahckblgpnmaa", sum := "a4946d5e9f5a7d44cfacc2702bd3746c4bc9c9fa5e78ba619a16a5f284ac4fda", func := "carfax/carfaxlaw12.AgingDrops", spec := "agingDrops", unfollowed := true, recurses := true, apart := false }
def AgingDropsSaid : Prop := agingDropsRow.holds Try.pinned (OpenSpec.ofChange agingDropsSpec)

/-- ITS FALSE NEIGHBOUR: 'it returns false'. Refute it at one input. -/
def agingDropsWrong : ChangeSpec := { name := "agingDrops", fn := fun _ => fun
  | [d1, d2, d3] => { results := [.lit (.bool false)], args := [d1, d2, d3] }
  | _ => none }
def AgingDropsWrongFalsely : Prop := agingDropsRow.holds Try.pinned (OpenSpec.ofChange agingDropsWrong)

/- THE SECOND FORM. 'bulk': how many values and letters a reading holds, each counted each time it is reached (what is shared counts as often as it is met; a slice's spare places count too). A statement '..UptoSaid' is the law's where the arguments, and the package variables that the reading takes, are together of bulk at most 1048576: NARROWER than '..Said'. Prove '..Said' where nothing that the law and all that it calls make is longer than what came in: it says more and counts as full. Else prove '..UptoSaid'. A law counts once. -/
mutual
def uptoBulk {H : Type} : DataW H → Nat
  | .lit (.string bytes) => bytes.length + 1
  | .lit _ => 1
  | .nil => 1
  | .ptr d => uptoBulk d + 1
  | .slice elems spare => uptoBulkAll elems + uptoBulkAll spare + 1
  | .agg parts => uptoBulkAll parts + 1
  | .iface _ d => uptoBulk d + 1
  | .map entries => uptoBulkEntries entries + 1
  | .held _ => 1
def uptoBulkAll {H : Type} : List (DataW H) → Nat
  | [] => 0
  | d :: r => uptoBulk d + uptoBulkAll r
def uptoBulkEntries {H : Type} : List (Lit × DataW H) → Nat
  | [] => 0
  | x :: r => uptoBulkEntry x + uptoBulkEntries r
def uptoBulkEntry {H : Type} : Lit × DataW H → Nat
  | (.string bytes, d) => bytes.length + uptoBulk d + 1
  | (_, d) => uptoBulk d + 1
 end
def uptoSmall : (H : Type) → List (DataW H) → Bool := fun _ ds => decide (uptoBulkAll ds ≤ 1048576)
def OpenSpec.upto (s : _root_.Go.ChangeSpec) : _root_.Go.OpenSpec := { _root_.Go.OpenSpec.ofChange s with cond := some uptoSmall }

/-- 'carfaxlaw12.AgingPlays', WHERE WHAT IT READS IS OF BULK AT MOST 1048576: true; the input reads as it did. -/
def agingPlaysUptoRow : OpenClaim := { program := "ytgeahckblgpnmaa", sum := "a4946d5e9f5a7d44cfacc2702bd3746c4bc9c9fa5e78ba619a16a5f284ac4fda", func := "carfax/carfaxlaw12.AgingPlays", spec := "agingPlays", unfollowed := true, recurses := true, apart := false, narrowed := true }
def AgingPlaysUptoSaid : Prop := agingPlaysUptoRow.holds Try.pinned (OpenSpec.upto agingPlaysSpec)

/-- 'carfaxlaw12.AgingBound', WHERE WHAT IT READS IS OF BULK AT MOST 1048576: true; the input reads as it did. -/
def agingBoundUptoRow : OpenClaim := { program := "ytgeahckblgpnmaa", sum := "a4946d5e9f5a7d44cfacc2702bd3746c4bc9c9fa5e78ba619a16a5f284ac4fda", func := "carfax/carfaxlaw12.AgingBound", spec := "agingBound", unfollowed := true, recurses := true, apart := false, narrowed := true }
def AgingBoundUptoSaid : Prop := agingBoundUptoRow.holds Try.pinned (OpenSpec.upto agingBoundSpec)

/-- 'carfaxlaw12.AgingLike', WHERE WHAT IT READS IS OF BULK AT MOST 1048576: true; the input reads as it did. -/
def agingLikeUptoRow : OpenClaim := { program := "ytgeahckblgpnmaa", sum := "a4946d5e9f5a7d44cfacc2702bd3746c4bc9c9fa5e78ba619a16a5f284ac4fda", func := "carfax/carfaxlaw12.AgingLike", spec := "agingLike", unfollowed := true, recurses := true, apart := false, narrowed := true }
def AgingLikeUptoSaid : Prop := agingLikeUptoRow.holds Try.pinned (OpenSpec.upto agingLikeSpec)

/-- 'carfaxlaw12.AgingAll', WHERE WHAT IT READS IS OF BULK AT MOST 1048576: true; the input reads as it did. -/
def agingAllUptoRow : OpenClaim := { program := "ytgeahckblgpnmaa", sum := "a4946d5e9f5a7d44cfacc2702bd3746c4bc9c9fa5e78ba619a16a5f284ac4fda", func := "carfax/carfaxlaw12.AgingAll", spec := "agingAll", unfollowed := true, recurses := true, apart := false, narrowed := true }
def AgingAllUptoSaid : Prop := agingAllUptoRow.holds Try.pinned (OpenSpec.upto agingAllSpec)

/-- 'carfaxlaw12.AgingNext', WHERE WHAT IT READS IS OF BULK AT MOST 1048576: true; the input reads as it did. -/
def agingNextUptoRow : OpenClaim := { program := "ytgeahckblgpnmaa", sum := "a4946d5e9f5a7d44cfacc2702bd3746c4bc9c9fa5e78ba619a16a5f284ac4fda", func := "carfax/carfaxlaw12.AgingNext", spec := "agingNext", unfollowed := true, recurses := true, apart := false, narrowed := true }
def AgingNextUptoSaid : Prop := agingNextUptoRow.holds Try.pinned (OpenSpec.upto agingNextSpec)

/-- 'carfaxlaw12.AgingDrops', WHERE WHAT IT READS IS OF BULK AT MOST 1048576: true; the input reads as it did. -/
def agingDropsUptoRow : OpenClaim := { program := "ytgeahckblgpnmaa", sum := "a4946d5e9f5a7d44cfacc2702bd3746c4bc9c9fa5e78ba619a16a5f284ac4fda", func := "carfax/carfaxlaw12.AgingDrops", spec := "agingDrops", unfollowed := true, recurses := true, apart := false, narrowed := true }
def AgingDropsUptoSaid : Prop := agingDropsUptoRow.holds Try.pinned (OpenSpec.upto agingDropsSpec)

end Rows
end Go.Proofs.Ytgeahckblgpnmaa
