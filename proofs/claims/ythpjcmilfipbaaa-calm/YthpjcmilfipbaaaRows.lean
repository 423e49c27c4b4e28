/-
  No cell of these rows narrows 'for every input' (looked for: loops, veiled, ifaces, maps, wideKeys, modest, calm, conditions, laid).
  DERIVED. THE GIVEN ROWS OF THIS SEAT. 12 by the template 'for every input the law returns true; each argument reads behind the call as it read before'; 0 by the template 'total and deterministic' (their statements: YthpjcmilfipbaaaTotals.lean).
  GIVEN WITH THE SEED: the statements are not yours to turn. If you find one false, say at which input.
  Laid BY PROGRAM, IN A SANDBOX (cutbox-rows.mjs): the forced cells as the released guide's own fill.sh prints them over the translation 2ad8cbbdbf356cf2… (all of the seat's roots in one cut). By AI agents, Wed Nov 11 2026. No macro, syntax, notation, axiom, sorry.
-/
import Derived.Test.YthpjcmilfipbaaaChecked
import GoSem.Claim
import GoSem.ClaimJoined
import GoSem.ClaimMapViews
import Derived.JoinedTies
import Derived.KernelRfl
namespace Go.Proofs.Ythpjcmilfipbaaa
/- THE CELL 'sum', in the pinned program and in every row, IS THE sha256 OF THE DUMP (.gsa) THAT YthpjcmilfipbaaaProg.lean LOADS. Nothing in Lean hashes anything: it is a label: what it is worth is what the hold of that sum in a sandbox is worth. -/
noncomputable def Try.pinned : Pinned := { name := "ythpjcmilfipbaaa", sum := "2ad8cbbdbf356cf2314a55a9d3fe4f603ed421bd991de303d3d30bb4866daa0b", checked := Try.checked }
namespace Rows
def none {H : Type} : Left H := { results := [], args := [] }

/-- 'ledgerlaw.First': WHATEVER THE INPUT: true; the input reads as it did. -/
def firstSpec : ChangeSpec := { name := "first", fn := fun _ => fun
  | [d] => { results := [.lit (.bool true)], args := [d] }
  | _ => none }
def firstRow : OpenClaim := { program := "ythpjcmilfipbaaa", sum := "2ad8cbbdbf356cf2314a55a9d3fe4f603ed421bd991de303d3d30bb4866daa0b", func := "ledger/ledgerlaw.First", spec := "first", apart := false }
def FirstSaid : Prop := firstRow.holds Try.pinned (OpenSpec.ofChange firstSpec)

/-- ITS FALSE NEIGHBOUR: 'it returns false'. Refute it at one input. -/
def firstWrong : ChangeSpec := { name := "first", fn := fun _ => fun
  | [d] => { results := [.lit (.bool false)], args := [d] }
  | _ => none }
def FirstWrongFalsely : Prop := firstRow.holds Try.pinned (OpenSpec.ofChange firstWrong)

/-- 'ledgerkeep.Unheard': WHATEVER THE INPUT: true; the input reads as it did. -/
def unheardSpec : ChangeSpec := { name := "unheard", fn := fun _ => fun
  | [d] => { results := [.lit (.bool true)], args := [d] }
  | _ => none }
def unheardRow : OpenClaim := { program := "ythpjcmilfipbaaa", sum := "2ad8cbbdbf356cf2314a55a9d3fe4f603ed421bd991de303d3d30bb4866daa0b", func := "ledger/ledgerkeep.Unheard", spec := "unheard", apart := false }
def UnheardSaid : Prop := unheardRow.holds Try.pinned (OpenSpec.ofChange unheardSpec)

/-- ITS FALSE NEIGHBOUR: 'it returns false'. Refute it at one input. -/
def unheardWrong : ChangeSpec := { name := "unheard", fn := fun _ => fun
  | [d] => { results := [.lit (.bool false)], args := [d] }
  | _ => none }
def UnheardWrongFalsely : Prop := unheardRow.holds Try.pinned (OpenSpec.ofChange unheardWrong)

/-- 'ledgerlaw.Second': WHATEVER THE INPUT: true; the input reads as it did. -/
def secondSpec : ChangeSpec := { name := "second", fn := fun _ => fun
  | [d] => { results := [.lit (.bool true)], args := [d] }
  | _ => none }
def secondRow : OpenClaim := { program := "ythpjcmilfipbaaa", sum := "2ad8cbbdbf356cf2314a55a9d3fe4f603ed421bd991de303d3d30bb4866daa0b", func := "ledger/ledgerlaw.Second", spec := "second", apart := false }
def SecondSaid : Prop := secondRow.holds Try.pinned (OpenSpec.ofChange secondSpec)

/-- ITS FALSE NEIGHBOUR: 'it returns false'. Refute it at one input. -/
def secondWrong : ChangeSpec := { name := "second", fn := fun _ => fun
  | [d] => { results := [.lit (.bool false)], args := [d] }
  | _ => none }
def SecondWrongFalsely : Prop := secondRow.holds Try.pinned (OpenSpec.ofChange secondWrong)

/-- 'ledgerlaw.Records': WHATEVER THE INPUT: true; the input reads as it did. -/
def recordsSpec : ChangeSpec := { name := "records", fn := fun _ => fun
  | [d] => { results := [.lit (.bool true)], args := [d] }
  | _ => none }
def recordsRow : OpenClaim := { program := "ythpjcmilfipbaaa", sum := "2ad8cbbdbf356cf2314a55a9d3fe4f603ed421bd991de303d3d30bb4866daa0b", func := "ledger/ledgerlaw.Records", spec := "records", apart := false }
def RecordsSaid : Prop := recordsRow.holds Try.pinned (OpenSpec.ofChange recordsSpec)

/-- ITS FALSE NEIGHBOUR: 'it returns false'. Refute it at one input. -/
def recordsWrong : ChangeSpec := { name := "records", fn := fun _ => fun
  | [d] => { results := [.lit (.bool false)], args := [d] }
  | _ => none }
def RecordsWrongFalsely : Prop := recordsRow.holds Try.pinned (OpenSpec.ofChange recordsWrong)

/-- 'ledgerlaw.Ways': WHATEVER THE INPUT: true; the input reads as it did. -/
def waysSpec : ChangeSpec := { name := "ways", fn := fun _ => fun
  | [d] => { results := [.lit (.bool true)], args := [d] }
  | _ => none }
def waysRow : OpenClaim := { program := "ythpjcmilfipbaaa", sum := "2ad8cbbdbf356cf2314a55a9d3fe4f603ed421bd991de303d3d30bb4866daa0b", func := "ledger/ledgerlaw.Ways", spec := "ways", apart := false }
def WaysSaid : Prop := waysRow.holds Try.pinned (OpenSpec.ofChange waysSpec)

/-- ITS FALSE NEIGHBOUR: 'it returns false'. Refute it at one input. -/
def waysWrong : ChangeSpec := { name := "ways", fn := fun _ => fun
  | [d] => { results := [.lit (.bool false)], args := [d] }
  | _ => none }
def WaysWrongFalsely : Prop := waysRow.holds Try.pinned (OpenSpec.ofChange waysWrong)

/-- 'ledgerlaw.Seen': WHATEVER THE INPUT: true; the input reads as it did. -/
def seenSpec : ChangeSpec := { name := "seen", fn := fun _ => fun
  | [d] => { results := [.lit (.bool true)], args := [d] }
  | _ => none }
def seenRow : OpenClaim := { program := "ythpjcmilfipbaaa", sum := "2ad8cbbdbf356cf2314a55a9d3fe4f603ed421bd991de303d3d30bb4866daa0b", func := "ledger/ledgerlaw.Seen", spec := "seen", apart := false }
def SeenSaid : Prop := seenRow.holds Try.pinned (OpenSpec.ofChange seenSpec)

/-- ITS FALSE NEIGHBOUR: 'it returns false'. Refute it at one input. -/
def seenWrong : ChangeSpec := { name := "seen", fn := fun _ => fun
  | [d] => { results := [.lit (.bool false)], args := [d] }
  | _ => none }
def SeenWrongFalsely : Prop := seenRow.holds Try.pinned (OpenSpec.ofChange seenWrong)

/-- 'ledgerlaw.Masters': WHATEVER THE INPUT: true; the input reads as it did. -/
def mastersSpec : ChangeSpec := { name := "masters", fn := fun _ => fun
  | [d] => { results := [.lit (.bool true)], args := [d] }
  | _ => none }
def mastersRow : OpenClaim := { program := "ythpjcmilfipbaaa", sum := "2ad8cbbdbf356cf2314a55a9d3fe4f603ed421bd991de303d3d30bb4866daa0b", func := "ledger/ledgerlaw.Masters", spec := "masters", apart := false }
def MastersSaid : Prop := mastersRow.holds Try.pinned (OpenSpec.ofChange mastersSpec)

/-- ITS FALSE NEIGHBOUR: 'it returns false'. Refute it at one input. -/
def mastersWrong : ChangeSpec := { name := "masters", fn := fun _ => fun
  | [d] => { results := [.lit (.bool false)], args := [d] }
  | _ => none }
def MastersWrongFalsely : Prop := mastersRow.holds Try.pinned (OpenSpec.ofChange mastersWrong)

/-- 'ledgerkeep.Kept': WHATEVER THE INPUT: true; the input reads as it did. -/
def keptSpec : ChangeSpec := { name := "kept", fn := fun _ => fun
  | [d1, d2] => { results := [.lit (.bool true)], args := [d1, d2] }
  | _ => none }
def keptRow : OpenClaim := { program := "ythpjcmilfipbaaa", sum := "2ad8cbbdbf356cf2314a55a9d3fe4f603ed421bd991de303d3d30bb4866daa0b", func := "ledger/ledgerkeep.Kept", spec := "kept", apart := false }
def KeptSaid : Prop := keptRow.holds Try.pinned (OpenSpec.ofChange keptSpec)

/-- ITS FALSE NEIGHBOUR: 'it returns false'. Refute it at one input. -/
def keptWrong : ChangeSpec := { name := "kept", fn := fun _ => fun
  | [d1, d2] => { results := [.lit (.bool false)], args := [d1, d2] }
  | _ => none }
def KeptWrongFalsely : Prop := keptRow.holds Try.pinned (OpenSpec.ofChange keptWrong)

/-- 'ledgerkeep.Ordered': WHATEVER THE INPUT: true; the input reads as it did. -/
def orderedSpec : ChangeSpec := { name := "ordered", fn := fun _ => fun
  | [d] => { results := [.lit (.bool true)], args := [d] }
  | _ => none }
def orderedRow : OpenClaim := { program := "ythpjcmilfipbaaa", sum := "2ad8cbbdbf356cf2314a55a9d3fe4f603ed421bd991de303d3d30bb4866daa0b", func := "ledger/ledgerkeep.Ordered", spec := "ordered", apart := false }
def OrderedSaid : Prop := orderedRow.holds Try.pinned (OpenSpec.ofChange orderedSpec)

/-- ITS FALSE NEIGHBOUR: 'it returns false'. Refute it at one input. -/
def orderedWrong : ChangeSpec := { name := "ordered", fn := fun _ => fun
  | [d] => { results := [.lit (.bool false)], args := [d] }
  | _ => none }
def OrderedWrongFalsely : Prop := orderedRow.holds Try.pinned (OpenSpec.ofChange orderedWrong)

/-- 'ledgerkeep.Calm': WHATEVER THE INPUT: true; the input reads as it did. -/
def calmSpec : ChangeSpec := { name := "calm", fn := fun _ => fun
  | [d1, d2, d3] => { results := [.lit (.bool true)], args := [d1, d2, d3] }
  | _ => none }
def calmRow : OpenClaim := { program := "ythpjcmilfipbaaa", sum := "2ad8cbbdbf356cf2314a55a9d3fe4f603ed421bd991de303d3d30bb4866daa0b", func := "ledger/ledgerkeep.Calm", spec := "calm", apart := false }
def CalmSaid : Prop := calmRow.holds Try.pinned (OpenSpec.ofChange calmSpec)

/-- ITS FALSE NEIGHBOUR: 'it returns false'. Refute it at one input. -/
def calmWrong : ChangeSpec := { name := "calm", fn := fun _ => fun
  | [d1, d2, d3] => { results := [.lit (.bool false)], args := [d1, d2, d3] }
  | _ => none }
def CalmWrongFalsely : Prop := calmRow.holds Try.pinned (OpenSpec.ofChange calmWrong)

/-- 'ledgerkeep.Refused': WHATEVER THE INPUT: true; the input reads as it did. -/
def refusedSpec : ChangeSpec := { name := "refused", fn := fun _ => fun
  | [d1, d2] => { results := [.lit (.bool true)], args := [d1, d2] }
  | _ => none }
def refusedRow : OpenClaim := { program := "ythpjcmilfipbaaa", sum := "2ad8cbbdbf356cf2314a55a9d3fe4f603ed421bd991de303d3d30bb4866daa0b", func := "ledger/ledgerkeep.Refused", spec := "refused", apart := false }
def RefusedSaid : Prop := refusedRow.holds Try.pinned (OpenSpec.ofChange refusedSpec)

/-- ITS FALSE NEIGHBOUR: 'it returns false'. Refute it at one input. -/
def refusedWrong : ChangeSpec := { name := "refused", fn := fun _ => fun
  | [d1, d2] => { results := [.lit (.bool false)], args := [d1, d2] }
  | _ => none }
def RefusedWrongFalsely : Prop := refusedRow.holds Try.pinned (OpenSpec.ofChange refusedWrong)

/-- 'ledgerlaw.All': WHATEVER THE INPUT: true; the input reads as it did. -/
def allSpec : ChangeSpec := { name := "all", fn := fun _ => fun
  | [d] => { results := [.lit (.bool true)], args := [d] }
  | _ => none }
def allRow : OpenClaim := { program := "ythpjcmilfipbaaa", sum := "2ad8cbbdbf356cf2314a55a9d3fe4f603ed421bd991de303d3d30bb4866daa0b", func := "ledger/ledgerlaw.All", spec := "all", apart := false }
def AllSaid : Prop := allRow.holds Try.pinned (OpenSpec.ofChange allSpec)

/-- ITS FALSE NEIGHBOUR: 'it returns false'. Refute it at one input. -/
def allWrong : ChangeSpec := { name := "all", fn := fun _ => fun
  | [d] => { results := [.lit (.bool false)], args := [d] }
  | _ => none }
def AllWrongFalsely : Prop := allRow.holds Try.pinned (OpenSpec.ofChange allWrong)

/- THE SECOND FORM. 'bulk': how many values and letters a reading holds, each counted each time it is reached (what is shared counts as often as it is met; a slice's spare places count too). A statement '..UptoSaid' is the law's where the arguments, and the package variables that the reading takes, are together of bulk at most 1048576: NARROWER than '..Said'. Prove '..Said' where nothing that the law and all that it calls make is longer than what came in: it says more and counts as full. Else prove '..UptoSaid'. A law counts once. -/
mutual
def uptoBulk {H : Type} : DataW H → Nat
  | .lit (.string bytes) => bytes.length + 1
  | .lit _ => 1
  | .nil => 1
  | .ptr d => uptoBulk d + 1
  | .slice elems spare => uptoBulkAll elems + uptoBulkAll spare + 1
  | .agg parts => uptoBulkAll parts + 1
  | .iface _ d => uptoBulk d + 1
  | .map entries => uptoBulkEntries entries + 1
  | .held _ => 1
def uptoBulkAll {H : Type} : List (DataW H) → Nat
  | [] => 0
  | d :: r => uptoBulk d + uptoBulkAll r
def uptoBulkEntries {H : Type} : List (Lit × DataW H) → Nat
  | [] => 0
  | x :: r => uptoBulkEntry x + uptoBulkEntries r
def uptoBulkEntry {H : Type} : Lit × DataW H → Nat
  | (.string bytes, d) => bytes.length + uptoBulk d + 1
  | (_, d) => uptoBulk d + 1
 end
def uptoSmall : (H : Type) → List (DataW H) → Bool := fun _ ds => decide (uptoBulkAll ds ≤ 1048576)
def OpenSpec.upto (s : _root_.Go.ChangeSpec) : _root_.Go.OpenSpec := { _root_.Go.OpenSpec.ofChange s with cond := some uptoSmall }

/-- 'ledgerlaw.First', WHERE WHAT IT READS IS OF BULK AT MOST 1048576: true; the input reads as it did. -/
def firstUptoRow : OpenClaim := { program := "ythpjcmilfipbaaa", sum := "2ad8cbbdbf356cf2314a55a9d3fe4f603ed421bd991de303d3d30bb4866daa0b", func := "ledger/ledgerlaw.First", spec := "first", apart := false, narrowed := true }
def FirstUptoSaid : Prop := firstUptoRow.holds Try.pinned (OpenSpec.upto firstSpec)

/-- 'ledgerkeep.Unheard', WHERE WHAT IT READS IS OF BULK AT MOST 1048576: true; the input reads as it did. -/
def unheardUptoRow : OpenClaim := { program := "ythpjcmilfipbaaa", sum := "2ad8cbbdbf356cf2314a55a9d3fe4f603ed421bd991de303d3d30bb4866daa0b", func := "ledger/ledgerkeep.Unheard", spec := "unheard", apart := false, narrowed := true }
def UnheardUptoSaid : Prop := unheardUptoRow.holds Try.pinned (OpenSpec.upto unheardSpec)

/-- 'ledgerlaw.Second', WHERE WHAT IT READS IS OF BULK AT MOST 1048576: true; the input reads as it did. -/
def secondUptoRow : OpenClaim := { program := "ythpjcmilfipbaaa", sum := "2ad8cbbdbf356cf2314a55a9d3fe4f603ed421bd991de303d3d30bb4866daa0b", func := "ledger/ledgerlaw.Second", spec := "second", apart := false, narrowed := true }
def SecondUptoSaid : Prop := secondUptoRow.holds Try.pinned (OpenSpec.upto secondSpec)

/-- 'ledgerlaw.Records', WHERE WHAT IT READS IS OF BULK AT MOST 1048576: true; the input reads as it did. -/
def recordsUptoRow : OpenClaim := { program := "ythpjcmilfipbaaa", sum := "2ad8cbbdbf356cf2314a55a9d3fe4f603ed421bd991de303d3d30bb4866daa0b", func := "ledger/ledgerlaw.Records", spec := "records", apart := false, narrowed := true }
def RecordsUptoSaid : Prop := recordsUptoRow.holds Try.pinned (OpenSpec.upto recordsSpec)

/-- 'ledgerlaw.Ways', WHERE WHAT IT READS IS OF BULK AT MOST 1048576: true; the input reads as it did. -/
def waysUptoRow : OpenClaim := { program := "ythpjcmilfipbaaa", sum := "2ad8cbbdbf356cf2314a55a9d3fe4f603ed421bd991de303d3d30bb4866daa0b", func := "ledger/ledgerlaw.Ways", spec := "ways", apart := false, narrowed := true }
def WaysUptoSaid : Prop := waysUptoRow.holds Try.pinned (OpenSpec.upto waysSpec)

/-- 'ledgerlaw.Seen', WHERE WHAT IT READS IS OF BULK AT MOST 1048576: true; the input reads as it did. -/
def seenUptoRow : OpenClaim := { program := "ythpjcmilfipbaaa", sum := "2ad8cbbdbf356cf2314a55a9d3fe4f603ed421bd991de303d3d30bb4866daa0b", func := "ledger/ledgerlaw.Seen", spec := "seen", apart := false, narrowed := true }
def SeenUptoSaid : Prop := seenUptoRow.holds Try.pinned (OpenSpec.upto seenSpec)

/-- 'ledgerlaw.Masters', WHERE WHAT IT READS IS OF BULK AT MOST 1048576: true; the input reads as it did. -/
def mastersUptoRow : OpenClaim := { program := "ythpjcmilfipbaaa", sum := "2ad8cbbdbf356cf2314a55a9d3fe4f603ed421bd991de303d3d30bb4866daa0b", func := "ledger/ledgerlaw.Masters", spec := "masters", apart := false, narrowed := true }
def MastersUptoSaid : Prop := mastersUptoRow.holds Try.pinned (OpenSpec.upto mastersSpec)

/-- 'ledgerkeep.Kept', WHERE WHAT IT READS IS OF BULK AT MOST 1048576: true; the input reads as it did. -/
def keptUptoRow : OpenClaim := { program := "ythpjcmilfipbaaa", sum := "2ad8cbbdbf356cf2314a55a9d3fe4f603ed421bd991de303d3d30bb4866daa0b", func := "ledger/ledgerkeep.Kept", spec := "kept", apart := false, narrowed := true }
def KeptUptoSaid : Prop := keptUptoRow.holds Try.pinned (OpenSpec.upto keptSpec)

/-- 'ledgerkeep.Ordered', WHERE WHAT IT READS IS OF BULK AT MOST 1048576: true; the input reads as it did. -/
def orderedUptoRow : OpenClaim := { program := "ythpjcmilfipbaaa", sum := "2ad8cbbdbf356cf2314a55a9d3fe4f603ed421bd991de303d3d30bb4866daa0b", func := "ledger/ledgerkeep.Ordered", spec := "ordered", apart := false, narrowed := true }
def OrderedUptoSaid : Prop := orderedUptoRow.holds Try.pinned (OpenSpec.upto orderedSpec)

/-- 'ledgerkeep.Calm', WHERE WHAT IT READS IS OF BULK AT MOST 1048576: true; the input reads as it did. -/
def calmUptoRow : OpenClaim := { program := "ythpjcmilfipbaaa", sum := "2ad8cbbdbf356cf2314a55a9d3fe4f603ed421bd991de303d3d30bb4866daa0b", func := "ledger/ledgerkeep.Calm", spec := "calm", apart := false, narrowed := true }
def CalmUptoSaid : Prop := calmUptoRow.holds Try.pinned (OpenSpec.upto calmSpec)

/-- 'ledgerkeep.Refused', WHERE WHAT IT READS IS OF BULK AT MOST 1048576: true; the input reads as it did. -/
def refusedUptoRow : OpenClaim := { program := "ythpjcmilfipbaaa", sum := "2ad8cbbdbf356cf2314a55a9d3fe4f603ed421bd991de303d3d30bb4866daa0b", func := "ledger/ledgerkeep.Refused", spec := "refused", apart := false, narrowed := true }
def RefusedUptoSaid : Prop := refusedUptoRow.holds Try.pinned (OpenSpec.upto refusedSpec)

/-- 'ledgerlaw.All', WHERE WHAT IT READS IS OF BULK AT MOST 1048576: true; the input reads as it did. -/
def allUptoRow : OpenClaim := { program := "ythpjcmilfipbaaa", sum := "2ad8cbbdbf356cf2314a55a9d3fe4f603ed421bd991de303d3d30bb4866daa0b", func := "ledger/ledgerlaw.All", spec := "all", apart := false, narrowed := true }
def AllUptoSaid : Prop := allUptoRow.holds Try.pinned (OpenSpec.upto allSpec)

end Rows
end Go.Proofs.Ythpjcmilfipbaaa
