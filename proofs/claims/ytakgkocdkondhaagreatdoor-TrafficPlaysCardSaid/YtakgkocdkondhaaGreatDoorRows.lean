/-
  NARROWER THAN 'FOR EVERY INPUT', by the rows' own cells (each row's printed sentence says how): TrafficPlays: laid · TrafficSafe: laid · TrafficApart: laid · TrafficHome: laid · TrafficOne: laid · TrafficNil: laid · TrafficWaits: laid.
  DERIVED. THE GIVEN ROWS OF THIS SEAT. 7 by the template 'for every input the law returns true; each argument reads behind the call as it read before'; 0 by the template 'total and deterministic' (their statements: YtakgkocdkondhaaGreatDoorTotals.lean).
  GIVEN WITH THE SEED: the statements are not yours to turn. If you find one false, say at which input.
  Laid BY PROGRAM, IN A SANDBOX (cutbox-rows.mjs): the forced cells as the released guide's own fill.sh prints them over the translation 10df7ef1ae5f196c… (all of the seat's roots in one cut). By AI agents, Wed Nov 11 2026. No macro, syntax, notation, axiom, sorry.
-/
import Derived.Test.YtakgkocdkondhaaGreatDoorChecked
import GoSem.PinnedTables
import GoSem.Claim
import GoSem.ClaimJoined
import GoSem.ClaimMapViews
import Derived.JoinedTies
import Derived.KernelRfl
namespace Go.Proofs.YtakgkocdkondhaaGreatDoor
/- THE CELL 'sum', in the pinned program and in every row, IS THE sha256 OF THE DUMP (.gsa) THAT YtakgkocdkondhaaGreatDoorProg.lean LOADS. Nothing in Lean hashes anything: it is a label: what it is worth is what the hold of that sum in a sandbox is worth. -/
noncomputable def Tryz.pinned : Pinned := { name := "ytakgkocdkondhaagreatdoor", sum := "10df7ef1ae5f196c837d8bfcef4cd7eeb557d89929eacd1882cc760d10a2b36e", checked := Tryz.checked }
namespace Rows
def none {H : Type} : Left H := { results := [], args := [] }

/- WHAT THE LISTED PACKAGE-LEVEL VARIABLES READ AS WHEN THE CALL BEGINS. Each datum BY PROGRAM (the guide's laid-datum.mjs) off the statement by which the dump's own 'gosem.cut.vars' lays the variable. In a bare row this is a premise. The card (YtakgkocdkondhaaGreatDoorCards.lean) ties it to the program's text. -/
def laid_unicode_utf8_acceptRanges {H : Type} : DataW H := .agg [.agg [.lit (.int .u8 128), .lit (.int .u8 191)], .agg [.lit (.int .u8 160), .lit (.int .u8 191)], .agg [.lit (.int .u8 128), .lit (.int .u8 159)], .agg [.lit (.int .u8 144), .lit (.int .u8 191)], .agg [.lit (.int .u8 128), .lit (.int .u8 143)], .agg [.lit (.int .u8 0), .lit (.int .u8 0)], .agg [.lit (.int .u8 0), .lit (.int .u8 0)], .agg [.lit (.int .u8 0), .lit (.int .u8 0)], .agg [.lit (.int .u8 0), .lit (.int .u8 0)], .agg [.lit (.int .u8 0), .lit (.int .u8 0)], .agg [.lit (.int .u8 0), .lit (.int .u8 0)], .agg [.lit (.int .u8 0), .lit (.int .u8 0)], .agg [.lit (.int .u8 0), .lit (.int .u8 0)], .agg [.lit (.int .u8 0), .lit (.int .u8 0)], .agg [.lit (.int .u8 0), .lit (.int .u8 0)], .agg [.lit (.int .u8 0), .lit (.int .u8 0)]]
/-- One of Go's own tables, pinned by name: the form's constant. -/
def laid_unicode_utf8_first : DataW Unit := Go.Pinned.utf8First

/-- 'carfaxlaw11.TrafficPlays': WHATEVER THE INPUT: true; the input reads as it did. -/
def trafficPlaysSpec : ChangeSpec := { name := "trafficPlays", fn := fun _ => fun
  | [d1, d2] => { results := [.lit (.bool true)], args := [d1, d2] }
  | _ => none }
def trafficPlaysRow : OpenClaim := { program := "ytakgkocdkondhaagreatdoor", sum := "10df7ef1ae5f196c837d8bfcef4cd7eeb557d89929eacd1882cc760d10a2b36e", func := "carfax/carfaxlaw11.TrafficPlays", spec := "trafficPlays", inPlace := ["internal/bytealg.CountString", "internal/bytealg.IndexByteString", "internal/bytealg.IndexString"], unfollowed := true, recurses := true, named := ["unicode/utf8.first", "unicode/utf8.acceptRanges", "internal/bytealg.MaxLen"], apart := false, laid := [("unicode/utf8.acceptRanges", laid_unicode_utf8_acceptRanges), ("unicode/utf8.first", laid_unicode_utf8_first)] }
def TrafficPlaysSaid : Prop := trafficPlaysRow.holds Tryz.pinned (OpenSpec.ofChange trafficPlaysSpec)

/-- ITS FALSE NEIGHBOUR: 'it returns false'. Refute it at one input. -/
def trafficPlaysWrong : ChangeSpec := { name := "trafficPlays", fn := fun _ => fun
  | [d1, d2] => { results := [.lit (.bool false)], args := [d1, d2] }
  | _ => none }
def TrafficPlaysWrongFalsely : Prop := trafficPlaysRow.holds Tryz.pinned (OpenSpec.ofChange trafficPlaysWrong)

/-- 'carfaxlaw11.TrafficSafe': WHATEVER THE INPUT: true; the input reads as it did. -/
def trafficSafeSpec : ChangeSpec := { name := "trafficSafe", fn := fun _ => fun
  | [d1, d2] => { results := [.lit (.bool true)], args := [d1, d2] }
  | _ => none }
def trafficSafeRow : OpenClaim := { program := "ytakgkocdkondhaagreatdoor", sum := "10df7ef1ae5f196c837d8bfcef4cd7eeb557d89929eacd1882cc760d10a2b36e", func := "carfax/carfaxlaw11.TrafficSafe", spec := "trafficSafe", inPlace := ["internal/bytealg.CountString", "internal/bytealg.IndexByteString", "internal/bytealg.IndexString"], unfollowed := true, recurses := true, named := ["unicode/utf8.first", "unicode/utf8.acceptRanges", "internal/bytealg.MaxLen"], apart := false, laid := [("unicode/utf8.acceptRanges", laid_unicode_utf8_acceptRanges), ("unicode/utf8.first", laid_unicode_utf8_first)] }
def TrafficSafeSaid : Prop := trafficSafeRow.holds Tryz.pinned (OpenSpec.ofChange trafficSafeSpec)

/-- ITS FALSE NEIGHBOUR: 'it returns false'. Refute it at one input. -/
def trafficSafeWrong : ChangeSpec := { name := "trafficSafe", fn := fun _ => fun
  | [d1, d2] => { results := [.lit (.bool false)], args := [d1, d2] }
  | _ => none }
def TrafficSafeWrongFalsely : Prop := trafficSafeRow.holds Tryz.pinned (OpenSpec.ofChange trafficSafeWrong)

/-- 'carfaxlaw11.TrafficApart': WHATEVER THE INPUT: true; the input reads as it did. -/
def trafficApartSpec : ChangeSpec := { name := "trafficApart", fn := fun _ => fun
  | [d1, d2] => { results := [.lit (.bool true)], args := [d1, d2] }
  | _ => none }
def trafficApartRow : OpenClaim := { program := "ytakgkocdkondhaagreatdoor", sum := "10df7ef1ae5f196c837d8bfcef4cd7eeb557d89929eacd1882cc760d10a2b36e", func := "carfax/carfaxlaw11.TrafficApart", spec := "trafficApart", inPlace := ["internal/bytealg.CountString", "internal/bytealg.IndexByteString", "internal/bytealg.IndexString"], unfollowed := true, recurses := true, named := ["unicode/utf8.first", "unicode/utf8.acceptRanges", "internal/bytealg.MaxLen"], apart := false, laid := [("unicode/utf8.acceptRanges", laid_unicode_utf8_acceptRanges), ("unicode/utf8.first", laid_unicode_utf8_first)] }
def TrafficApartSaid : Prop := trafficApartRow.holds Tryz.pinned (OpenSpec.ofChange trafficApartSpec)

/-- ITS FALSE NEIGHBOUR: 'it returns false'. Refute it at one input. -/
def trafficApartWrong : ChangeSpec := { name := "trafficApart", fn := fun _ => fun
  | [d1, d2] => { results := [.lit (.bool false)], args := [d1, d2] }
  | _ => none }
def TrafficApartWrongFalsely : Prop := trafficApartRow.holds Tryz.pinned (OpenSpec.ofChange trafficApartWrong)

/-- 'carfaxlaw11.TrafficHome': WHATEVER THE INPUT: true; the input reads as it did. -/
def trafficHomeSpec : ChangeSpec := { name := "trafficHome", fn := fun _ => fun
  | [d1, d2] => { results := [.lit (.bool true)], args := [d1, d2] }
  | _ => none }
def trafficHomeRow : OpenClaim := { program := "ytakgkocdkondhaagreatdoor", sum := "10df7ef1ae5f196c837d8bfcef4cd7eeb557d89929eacd1882cc760d10a2b36e", func := "carfax/carfaxlaw11.TrafficHome", spec := "trafficHome", inPlace := ["internal/bytealg.CountString", "internal/bytealg.IndexByteString", "internal/bytealg.IndexString"], unfollowed := true, recurses := true, named := ["unicode/utf8.first", "unicode/utf8.acceptRanges", "internal/bytealg.MaxLen"], apart := false, laid := [("unicode/utf8.acceptRanges", laid_unicode_utf8_acceptRanges), ("unicode/utf8.first", laid_unicode_utf8_first)] }
def TrafficHomeSaid : Prop := trafficHomeRow.holds Tryz.pinned (OpenSpec.ofChange trafficHomeSpec)

/-- ITS FALSE NEIGHBOUR: 'it returns false'. Refute it at one input. -/
def trafficHomeWrong : ChangeSpec := { name := "trafficHome", fn := fun _ => fun
  | [d1, d2] => { results := [.lit (.bool false)], args := [d1, d2] }
  | _ => none }
def TrafficHomeWrongFalsely : Prop := trafficHomeRow.holds Tryz.pinned (OpenSpec.ofChange trafficHomeWrong)

/-- 'carfaxlaw11.TrafficOne': WHATEVER THE INPUT: true; the input reads as it did. -/
def trafficOneSpec : ChangeSpec := { name := "trafficOne", fn := fun _ => fun
  | [d1, d2] => { results := [.lit (.bool true)], args := [d1, d2] }
  | _ => none }
def trafficOneRow : OpenClaim := { program := "ytakgkocdkondhaagreatdoor", sum := "10df7ef1ae5f196c837d8bfcef4cd7eeb557d89929eacd1882cc760d10a2b36e", func := "carfax/carfaxlaw11.TrafficOne", spec := "trafficOne", inPlace := ["internal/bytealg.CountString", "internal/bytealg.IndexByteString", "internal/bytealg.IndexString"], unfollowed := true, recurses := true, named := ["unicode/utf8.first", "unicode/utf8.acceptRanges", "internal/bytealg.MaxLen"], apart := false, laid := [("unicode/utf8.acceptRanges", laid_unicode_utf8_acceptRanges), ("unicode/utf8.first", laid_unicode_utf8_first)] }
def TrafficOneSaid : Prop := trafficOneRow.holds Tryz.pinned (OpenSpec.ofChange trafficOneSpec)

/-- ITS FALSE NEIGHBOUR: 'it returns false'. Refute it at one input. -/
def trafficOneWrong : ChangeSpec := { name := "trafficOne", fn := fun _ => fun
  | [d1, d2] => { results := [.lit (.bool false)], args := [d1, d2] }
  | _ => none }
def TrafficOneWrongFalsely : Prop := trafficOneRow.holds Tryz.pinned (OpenSpec.ofChange trafficOneWrong)

/-- 'carfaxlaw11.TrafficNil': WHATEVER THE INPUT: true; the input reads as it did. -/
def trafficNilSpec : ChangeSpec := { name := "trafficNil", fn := fun _ => fun
  | [d1, d2] => { results := [.lit (.bool true)], args := [d1, d2] }
  | _ => none }
def trafficNilRow : OpenClaim := { program := "ytakgkocdkondhaagreatdoor", sum := "10df7ef1ae5f196c837d8bfcef4cd7eeb557d89929eacd1882cc760d10a2b36e", func := "carfax/carfaxlaw11.TrafficNil", spec := "trafficNil", inPlace := ["internal/bytealg.CountString", "internal/bytealg.IndexByteString", "internal/bytealg.IndexString"], unfollowed := true, recurses := true, named := ["unicode/utf8.first", "unicode/utf8.acceptRanges", "internal/bytealg.MaxLen"], apart := false, laid := [("unicode/utf8.acceptRanges", laid_unicode_utf8_acceptRanges), ("unicode/utf8.first", laid_unicode_utf8_first)] }
def TrafficNilSaid : Prop := trafficNilRow.holds Tryz.pinned (OpenSpec.ofChange trafficNilSpec)

/-- ITS FALSE NEIGHBOUR: 'it returns false'. Refute it at one input. -/
def trafficNilWrong : ChangeSpec := { name := "trafficNil", fn := fun _ => fun
  | [d1, d2] => { results := [.lit (.bool false)], args := [d1, d2] }
  | _ => none }
def TrafficNilWrongFalsely : Prop := trafficNilRow.holds Tryz.pinned (OpenSpec.ofChange trafficNilWrong)

/-- 'carfaxlaw11.TrafficWaits': WHATEVER THE INPUT: true; the input reads as it did. -/
def trafficWaitsSpec : ChangeSpec := { name := "trafficWaits", fn := fun _ => fun
  | [d1, d2] => { results := [.lit (.bool true)], args := [d1, d2] }
  | _ => none }
def trafficWaitsRow : OpenClaim := { program := "ytakgkocdkondhaagreatdoor", sum := "10df7ef1ae5f196c837d8bfcef4cd7eeb557d89929eacd1882cc760d10a2b36e", func := "carfax/carfaxlaw11.TrafficWaits", spec := "trafficWaits", inPlace := ["internal/bytealg.CountString", "internal/bytealg.IndexByteString", "internal/bytealg.IndexString"], unfollowed := true, recurses := true, named := ["unicode/utf8.first", "unicode/utf8.acceptRanges", "internal/bytealg.MaxLen"], apart := false, laid := [("unicode/utf8.acceptRanges", laid_unicode_utf8_acceptRanges), ("unicode/utf8.first", laid_unicode_utf8_first)] }
def TrafficWaitsSaid : Prop := trafficWaitsRow.holds Tryz.pinned (OpenSpec.ofChange trafficWaitsSpec)

/-- ITS FALSE NEIGHBOUR: 'it returns false'. Refute it at one input. -/
def trafficWaitsWrong : ChangeSpec := { name := "trafficWaits", fn := fun _ => fun
  | [d1, d2] => { results := [.lit (.bool false)], args := [d1, d2] }
  | _ => none }
def TrafficWaitsWrongFalsely : Prop := trafficWaitsRow.holds Tryz.pinned (OpenSpec.ofChange trafficWaitsWrong)

/- THE SECOND FORM. 'bulk': how many values and letters a reading holds, each counted each time it is reached (what is shared counts as often as it is met; a slice's spare places count too). A statement '..UptoSaid' is the law's where the arguments, and the package variables that the reading takes, are together of bulk at most 1048576: NARROWER than '..Said'. Prove '..Said' where nothing that the law and all that it calls make is longer than what came in: it says more and counts as full. Else prove '..UptoSaid'. A law counts once. -/
mutual
def uptoBulk {H : Type} : DataW H → Nat
  | .lit (.string bytes) => bytes.length + 1
  | .lit _ => 1
  | .nil => 1
  | .ptr d => uptoBulk d + 1
  | .slice elems spare => uptoBulkAll elems + uptoBulkAll spare + 1
  | .agg parts => uptoBulkAll parts + 1
  | .iface _ d => uptoBulk d + 1
  | .map entries => uptoBulkEntries entries + 1
  | .held _ => 1
def uptoBulkAll {H : Type} : List (DataW H) → Nat
  | [] => 0
  | d :: r => uptoBulk d + uptoBulkAll r
def uptoBulkEntries {H : Type} : List (Lit × DataW H) → Nat
  | [] => 0
  | x :: r => uptoBulkEntry x + uptoBulkEntries r
def uptoBulkEntry {H : Type} : Lit × DataW H → Nat
  | (.string bytes, d) => bytes.length + uptoBulk d + 1
  | (_, d) => uptoBulk d + 1
 end
def uptoSmall : (H : Type) → List (DataW H) → Bool := fun _ ds => decide (uptoBulkAll ds ≤ 1048576)
def OpenSpec.upto (s : _root_.Go.ChangeSpec) : _root_.Go.OpenSpec := { _root_.Go.OpenSpec.ofChange s with cond := some uptoSmall }

/-- 'carfaxlaw11.TrafficPlays', WHERE WHAT IT READS IS OF BULK AT MOST 1048576: true; the input reads as it did. -/
def trafficPlaysUptoRow : OpenClaim := { program := "ytakgkocdkondhaagreatdoor", sum := "10df7ef1ae5f196c837d8bfcef4cd7eeb557d89929eacd1882cc760d10a2b36e", func := "carfax/carfaxlaw11.TrafficPlays", spec := "trafficPlays", inPlace := ["internal/bytealg.CountString", "internal/bytealg.IndexByteString", "internal/bytealg.IndexString"], unfollowed := true, recurses := true, named := ["unicode/utf8.first", "unicode/utf8.acceptRanges", "internal/bytealg.MaxLen"], apart := false, laid := [("unicode/utf8.acceptRanges", laid_unicode_utf8_acceptRanges), ("unicode/utf8.first", laid_unicode_utf8_first)], narrowed := true }
def TrafficPlaysUptoSaid : Prop := trafficPlaysUptoRow.holds Tryz.pinned (OpenSpec.upto trafficPlaysSpec)

/-- 'carfaxlaw11.TrafficSafe', WHERE WHAT IT READS IS OF BULK AT MOST 1048576: true; the input reads as it did. -/
def trafficSafeUptoRow : OpenClaim := { program := "ytakgkocdkondhaagreatdoor", sum := "10df7ef1ae5f196c837d8bfcef4cd7eeb557d89929eacd1882cc760d10a2b36e", func := "carfax/carfaxlaw11.TrafficSafe", spec := "trafficSafe", inPlace := ["internal/bytealg.CountString", "internal/bytealg.IndexByteString", "internal/bytealg.IndexString"], unfollowed := true, recurses := true, named := ["unicode/utf8.first", "unicode/utf8.acceptRanges", "internal/bytealg.MaxLen"], apart := false, laid := [("unicode/utf8.acceptRanges", laid_unicode_utf8_acceptRanges), ("unicode/utf8.first", laid_unicode_utf8_first)], narrowed := true }
def TrafficSafeUptoSaid : Prop := trafficSafeUptoRow.holds Tryz.pinned (OpenSpec.upto trafficSafeSpec)

/-- 'carfaxlaw11.TrafficApart', WHERE WHAT IT READS IS OF BULK AT MOST 1048576: true; the input reads as it did. -/
def trafficApartUptoRow : OpenClaim := { program := "ytakgkocdkondhaagreatdoor", sum := "10df7ef1ae5f196c837d8bfcef4cd7eeb557d89929eacd1882cc760d10a2b36e", func := "carfax/carfaxlaw11.TrafficApart", spec := "trafficApart", inPlace := ["internal/bytealg.CountString", "internal/bytealg.IndexByteString", "internal/bytealg.IndexString"], unfollowed := true, recurses := true, named := ["unicode/utf8.first", "unicode/utf8.acceptRanges", "internal/bytealg.MaxLen"], apart := false, laid := [("unicode/utf8.acceptRanges", laid_unicode_utf8_acceptRanges), ("unicode/utf8.first", laid_unicode_utf8_first)], narrowed := true }
def TrafficApartUptoSaid : Prop := trafficApartUptoRow.holds Tryz.pinned (OpenSpec.upto trafficApartSpec)

/-- 'carfaxlaw11.TrafficHome', WHERE WHAT IT READS IS OF BULK AT MOST 1048576: true; the input reads as it did. -/
def trafficHomeUptoRow : OpenClaim := { program := "ytakgkocdkondhaagreatdoor", sum := "10df7ef1ae5f196c837d8bfcef4cd7eeb557d89929eacd1882cc760d10a2b36e", func := "carfax/carfaxlaw11.TrafficHome", spec := "trafficHome", inPlace := ["internal/bytealg.CountString", "internal/bytealg.IndexByteString", "internal/bytealg.IndexString"], unfollowed := true, recurses := true, named := ["unicode/utf8.first", "unicode/utf8.acceptRanges", "internal/bytealg.MaxLen"], apart := false, laid := [("unicode/utf8.acceptRanges", laid_unicode_utf8_acceptRanges), ("unicode/utf8.first", laid_unicode_utf8_first)], narrowed := true }
def TrafficHomeUptoSaid : Prop := trafficHomeUptoRow.holds Tryz.pinned (OpenSpec.upto trafficHomeSpec)

/-- 'carfaxlaw11.TrafficOne', WHERE WHAT IT READS IS OF BULK AT MOST 1048576: true; the input reads as it did. -/
def trafficOneUptoRow : OpenClaim := { program := "ytakgkocdkondhaagreatdoor", sum := "10df7ef1ae5f196c837d8bfcef4cd7eeb557d89929eacd1882cc760d10a2b36e", func := "carfax/carfaxlaw11.TrafficOne", spec := "trafficOne", inPlace := ["internal/bytealg.CountString", "internal/bytealg.IndexByteString", "internal/bytealg.IndexString"], unfollowed := true, recurses := true, named := ["unicode/utf8.first", "unicode/utf8.acceptRanges", "internal/bytealg.MaxLen"], apart := false, laid := [("unicode/utf8.acceptRanges", laid_unicode_utf8_acceptRanges), ("unicode/utf8.first", laid_unicode_utf8_first)], narrowed := true }
def TrafficOneUptoSaid : Prop := trafficOneUptoRow.holds Tryz.pinned (OpenSpec.upto trafficOneSpec)

/-- 'carfaxlaw11.TrafficNil', WHERE WHAT IT READS IS OF BULK AT MOST 1048576: true; the input reads as it did. -/
def trafficNilUptoRow : OpenClaim := { program := "ytakgkocdkondhaagreatdoor", sum := "10df7ef1ae5f196c837d8bfcef4cd7eeb557d89929eacd1882cc760d10a2b36e", func := "carfax/carfaxlaw11.TrafficNil", spec := "trafficNil", inPlace := ["internal/bytealg.CountString", "internal/bytealg.IndexByteString", "internal/bytealg.IndexString"], unfollowed := true, recurses := true, named := ["unicode/utf8.first", "unicode/utf8.acceptRanges", "internal/bytealg.MaxLen"], apart := false, laid := [("unicode/utf8.acceptRanges", laid_unicode_utf8_acceptRanges), ("unicode/utf8.first", laid_unicode_utf8_first)], narrowed := true }
def TrafficNilUptoSaid : Prop := trafficNilUptoRow.holds Tryz.pinned (OpenSpec.upto trafficNilSpec)

/-- 'carfaxlaw11.TrafficWaits', WHERE WHAT IT READS IS OF BULK AT MOST 1048576: true; the input reads as it did. -/
def trafficWaitsUptoRow : OpenClaim := { program := "ytakgkocdkondhaagreatdoor", sum := "10df7ef1ae5f196c837d8bfcef4cd7eeb557d89929eacd1882cc760d10a2b36e", func := "carfax/carfaxlaw11.TrafficWaits", spec := "trafficWaits", inPlace := ["internal/bytealg.CountString", "internal/bytealg.IndexByteString", "internal/bytealg.IndexString"], unfollowed := true, recurses := true, named := ["unicode/utf8.first", "unicode/utf8.acceptRanges", "internal/bytealg.MaxLen"], apart := false, laid := [("unicode/utf8.acceptRanges", laid_unicode_utf8_acceptRanges), ("unicode/utf8.first", laid_unicode_utf8_first)], narrowed := true }
def TrafficWaitsUptoSaid : Prop := trafficWaitsUptoRow.holds Tryz.pinned (OpenSpec.upto trafficWaitsSpec)

end Rows
end Go.Proofs.YtakgkocdkondhaaGreatDoor
