/-
  No cell of these rows narrows 'for every input' (looked for: loops, veiled, ifaces, maps, wideKeys, modest, calm, conditions, laid).
  DERIVED. THE GIVEN ROWS OF THIS SEAT. 7 by the template 'for every input the law returns true; each argument reads behind the call as it read before'; 0 by the template 'total and deterministic' (their statements: YtmfpiodlecapiaaTotals.lean).
  GIVEN WITH THE SEED: the statements are not yours to turn. If you find one false, say at which input.
  Laid BY PROGRAM, IN A SANDBOX (cutbox-rows.mjs): the forced cells as the released guide's own fill.sh prints them over the translation 991490e968f94b73… (all of the seat's roots in one cut). By AI agents, Wed Nov 11 2026. No macro, syntax, notation, axiom, sorry.
-/
import Derived.Test.YtmfpiodlecapiaaChecked
import GoSem.Claim
import GoSem.ClaimJoined
import GoSem.ClaimMapViews
import Derived.JoinedTies
import Derived.KernelRfl
namespace Go.Proofs.Ytmfpiodlecapiaa
/- THE CELL 'sum', in the pinned program and in every row, IS THE sha256 OF THE DUMP (.gsa) THAT YtmfpiodlecapiaaProg.lean LOADS. Nothing in Lean hashes anything: it is a label: what it is worth is what the hold of that sum in a sandbox is worth. -/
noncomputable def Try.pinned : Pinned := { name := "ytmfpiodlecapiaa", sum := "991490e968f94b73801f73f9c36eaf387da205976a5b2923e4715134978c70a5", checked := Try.checked }
namespace Rows
def none {H : Type} : Left H := { results := [], args := [] }

/-- 'fascinelaw.Field': WHATEVER THE INPUT: true; the input reads as it did. -/
def fieldSpec : ChangeSpec := { name := "field", fn := fun _ => fun
  | [d1, d2] => { results := [.lit (.bool true)], args := [d1, d2] }
  | _ => none }
def fieldRow : OpenClaim := { program := "ytmfpiodlecapiaa", sum := "991490e968f94b73801f73f9c36eaf387da205976a5b2923e4715134978c70a5", func := "fascine/fascinelaw.Field", spec := "field", apart := false }
def FieldSaid : Prop := fieldRow.holds Try.pinned (OpenSpec.ofChange fieldSpec)

/-- ITS FALSE NEIGHBOUR: 'it returns false'. Refute it at one input. -/
def fieldWrong : ChangeSpec := { name := "field", fn := fun _ => fun
  | [d1, d2] => { results := [.lit (.bool false)], args := [d1, d2] }
  | _ => none }
def FieldWrongFalsely : Prop := fieldRow.holds Try.pinned (OpenSpec.ofChange fieldWrong)

/-- 'fascinelaw.Cuts': WHATEVER THE INPUT: true; the input reads as it did. -/
def cutsSpec : ChangeSpec := { name := "cuts", fn := fun _ => fun
  | [d1, d2] => { results := [.lit (.bool true)], args := [d1, d2] }
  | _ => none }
def cutsRow : OpenClaim := { program := "ytmfpiodlecapiaa", sum := "991490e968f94b73801f73f9c36eaf387da205976a5b2923e4715134978c70a5", func := "fascine/fascinelaw.Cuts", spec := "cuts", apart := false }
def CutsSaid : Prop := cutsRow.holds Try.pinned (OpenSpec.ofChange cutsSpec)

/-- ITS FALSE NEIGHBOUR: 'it returns false'. Refute it at one input. -/
def cutsWrong : ChangeSpec := { name := "cuts", fn := fun _ => fun
  | [d1, d2] => { results := [.lit (.bool false)], args := [d1, d2] }
  | _ => none }
def CutsWrongFalsely : Prop := cutsRow.holds Try.pinned (OpenSpec.ofChange cutsWrong)

/-- 'fascinelaw.Makes': WHATEVER THE INPUT: true; the input reads as it did. -/
def makesSpec : ChangeSpec := { name := "makes", fn := fun _ => fun
  | [d1, d2, d3] => { results := [.lit (.bool true)], args := [d1, d2, d3] }
  | _ => none }
def makesRow : OpenClaim := { program := "ytmfpiodlecapiaa", sum := "991490e968f94b73801f73f9c36eaf387da205976a5b2923e4715134978c70a5", func := "fascine/fascinelaw.Makes", spec := "makes", apart := false }
def MakesSaid : Prop := makesRow.holds Try.pinned (OpenSpec.ofChange makesSpec)

/-- ITS FALSE NEIGHBOUR: 'it returns false'. Refute it at one input. -/
def makesWrong : ChangeSpec := { name := "makes", fn := fun _ => fun
  | [d1, d2, d3] => { results := [.lit (.bool false)], args := [d1, d2, d3] }
  | _ => none }
def MakesWrongFalsely : Prop := makesRow.holds Try.pinned (OpenSpec.ofChange makesWrong)

/-- 'fascinekeep.Ring': WHATEVER THE INPUT: true; the input reads as it did. -/
def ringSpec : ChangeSpec := { name := "ring", fn := fun _ => fun
  | [d1, d2, d3] => { results := [.lit (.bool true)], args := [d1, d2, d3] }
  | _ => none }
def ringRow : OpenClaim := { program := "ytmfpiodlecapiaa", sum := "991490e968f94b73801f73f9c36eaf387da205976a5b2923e4715134978c70a5", func := "fascine/fascinekeep.Ring", spec := "ring", apart := false }
def RingSaid : Prop := ringRow.holds Try.pinned (OpenSpec.ofChange ringSpec)

/-- ITS FALSE NEIGHBOUR: 'it returns false'. Refute it at one input. -/
def ringWrong : ChangeSpec := { name := "ring", fn := fun _ => fun
  | [d1, d2, d3] => { results := [.lit (.bool false)], args := [d1, d2, d3] }
  | _ => none }
def RingWrongFalsely : Prop := ringRow.holds Try.pinned (OpenSpec.ofChange ringWrong)

/-- 'fascinekeep.Whole': WHATEVER THE INPUT: true; the input reads as it did. -/
def wholeSpec : ChangeSpec := { name := "whole", fn := fun _ => fun
  | [d1, d2, d3, d4, d5] => { results := [.lit (.bool true)], args := [d1, d2, d3, d4, d5] }
  | _ => none }
def wholeRow : OpenClaim := { program := "ytmfpiodlecapiaa", sum := "991490e968f94b73801f73f9c36eaf387da205976a5b2923e4715134978c70a5", func := "fascine/fascinekeep.Whole", spec := "whole", apart := false }
def WholeSaid : Prop := wholeRow.holds Try.pinned (OpenSpec.ofChange wholeSpec)

/-- ITS FALSE NEIGHBOUR: 'it returns false'. Refute it at one input. -/
def wholeWrong : ChangeSpec := { name := "whole", fn := fun _ => fun
  | [d1, d2, d3, d4, d5] => { results := [.lit (.bool false)], args := [d1, d2, d3, d4, d5] }
  | _ => none }
def WholeWrongFalsely : Prop := wholeRow.holds Try.pinned (OpenSpec.ofChange wholeWrong)

/-- 'fascinekeep.Adds': WHATEVER THE INPUT: true; the input reads as it did. -/
def addsSpec : ChangeSpec := { name := "adds", fn := fun _ => fun
  | [d1, d2, d3, d4, d5] => { results := [.lit (.bool true)], args := [d1, d2, d3, d4, d5] }
  | _ => none }
def addsRow : OpenClaim := { program := "ytmfpiodlecapiaa", sum := "991490e968f94b73801f73f9c36eaf387da205976a5b2923e4715134978c70a5", func := "fascine/fascinekeep.Adds", spec := "adds", apart := false }
def AddsSaid : Prop := addsRow.holds Try.pinned (OpenSpec.ofChange addsSpec)

/-- ITS FALSE NEIGHBOUR: 'it returns false'. Refute it at one input. -/
def addsWrong : ChangeSpec := { name := "adds", fn := fun _ => fun
  | [d1, d2, d3, d4, d5] => { results := [.lit (.bool false)], args := [d1, d2, d3, d4, d5] }
  | _ => none }
def AddsWrongFalsely : Prop := addsRow.holds Try.pinned (OpenSpec.ofChange addsWrong)

/-- 'fascinekeep.Mixed': WHATEVER THE INPUT: true; the input reads as it did. -/
def mixedSpec : ChangeSpec := { name := "mixed", fn := fun _ => fun
  | [d1, d2, d3, d4, d5] => { results := [.lit (.bool true)], args := [d1, d2, d3, d4, d5] }
  | _ => none }
def mixedRow : OpenClaim := { program := "ytmfpiodlecapiaa", sum := "991490e968f94b73801f73f9c36eaf387da205976a5b2923e4715134978c70a5", func := "fascine/fascinekeep.Mixed", spec := "mixed", inPlace := ["(*sync.WaitGroup).Add", "internal/race.ReleaseMerge", "internal/race.Disable", "internal/race.Enable", "internal/synctest.IsInBubble", "internal/synctest.Associate[sync.WaitGroup]", "sync.fatal", "sync/atomic.OrUint64", "sync/atomic.AddUint64", "internal/race.Read", "sync/atomic.LoadUint64", "sync/atomic.StoreUint64", "internal/synctest.Disassociate[sync.WaitGroup]", "sync.runtime_Semrelease", "(*sync.WaitGroup).Done", "internal/bytealg.MakeNoZero", "(*sync.WaitGroup).Wait", "internal/race.Acquire", "internal/synctest.IsAssociated[sync.WaitGroup]", "sync/atomic.CompareAndSwapUint64", "internal/race.Write", "sync.runtime_SemacquireWaitGroup"], unfollowed := true, recurses := true, leaving := true, apart := false }
def MixedSaid : Prop := mixedRow.holds Try.pinned (OpenSpec.ofChange mixedSpec)

/-- ITS FALSE NEIGHBOUR: 'it returns false'. Refute it at one input. -/
def mixedWrong : ChangeSpec := { name := "mixed", fn := fun _ => fun
  | [d1, d2, d3, d4, d5] => { results := [.lit (.bool false)], args := [d1, d2, d3, d4, d5] }
  | _ => none }
def MixedWrongFalsely : Prop := mixedRow.holds Try.pinned (OpenSpec.ofChange mixedWrong)

/- THE SECOND FORM. 'bulk': how many values and letters a reading holds, each counted each time it is reached (what is shared counts as often as it is met; a slice's spare places count too). A statement '..UptoSaid' is the law's where the arguments, and the package variables that the reading takes, are together of bulk at most 1048576: NARROWER than '..Said'. Prove '..Said' where nothing that the law and all that it calls make is longer than what came in: it says more and counts as full. Else prove '..UptoSaid'. A law counts once. -/
mutual
def uptoBulk {H : Type} : DataW H → Nat
  | .lit (.string bytes) => bytes.length + 1
  | .lit _ => 1
  | .nil => 1
  | .ptr d => uptoBulk d + 1
  | .slice elems spare => uptoBulkAll elems + uptoBulkAll spare + 1
  | .agg parts => uptoBulkAll parts + 1
  | .iface _ d => uptoBulk d + 1
  | .map entries => uptoBulkEntries entries + 1
  | .held _ => 1
def uptoBulkAll {H : Type} : List (DataW H) → Nat
  | [] => 0
  | d :: r => uptoBulk d + uptoBulkAll r
def uptoBulkEntries {H : Type} : List (Lit × DataW H) → Nat
  | [] => 0
  | x :: r => uptoBulkEntry x + uptoBulkEntries r
def uptoBulkEntry {H : Type} : Lit × DataW H → Nat
  | (.string bytes, d) => bytes.length + uptoBulk d + 1
  | (_, d) => uptoBulk d + 1
 end
def uptoSmall : (H : Type) → List (DataW H) → Bool := fun _ ds => decide (uptoBulkAll ds ≤ 1048576)
def OpenSpec.upto (s : _root_.Go.ChangeSpec) : _root_.Go.OpenSpec := { _root_.Go.OpenSpec.ofChange s with cond := some uptoSmall }

/-- 'fascinelaw.Field', WHERE WHAT IT READS IS OF BULK AT MOST 1048576: true; the input reads as it did. -/
def fieldUptoRow : OpenClaim := { program := "ytmfpiodlecapiaa", sum := "991490e968f94b73801f73f9c36eaf387da205976a5b2923e4715134978c70a5", func := "fascine/fascinelaw.Field", spec := "field", apart := false, narrowed := true }
def FieldUptoSaid : Prop := fieldUptoRow.holds Try.pinned (OpenSpec.upto fieldSpec)

/-- 'fascinelaw.Cuts', WHERE WHAT IT READS IS OF BULK AT MOST 1048576: true; the input reads as it did. -/
def cutsUptoRow : OpenClaim := { program := "ytmfpiodlecapiaa", sum := "991490e968f94b73801f73f9c36eaf387da205976a5b2923e4715134978c70a5", func := "fascine/fascinelaw.Cuts", spec := "cuts", apart := false, narrowed := true }
def CutsUptoSaid : Prop := cutsUptoRow.holds Try.pinned (OpenSpec.upto cutsSpec)

/-- 'fascinelaw.Makes', WHERE WHAT IT READS IS OF BULK AT MOST 1048576: true; the input reads as it did. -/
def makesUptoRow : OpenClaim := { program := "ytmfpiodlecapiaa", sum := "991490e968f94b73801f73f9c36eaf387da205976a5b2923e4715134978c70a5", func := "fascine/fascinelaw.Makes", spec := "makes", apart := false, narrowed := true }
def MakesUptoSaid : Prop := makesUptoRow.holds Try.pinned (OpenSpec.upto makesSpec)

/-- 'fascinekeep.Ring', WHERE WHAT IT READS IS OF BULK AT MOST 1048576: true; the input reads as it did. -/
def ringUptoRow : OpenClaim := { program := "ytmfpiodlecapiaa", sum := "991490e968f94b73801f73f9c36eaf387da205976a5b2923e4715134978c70a5", func := "fascine/fascinekeep.Ring", spec := "ring", apart := false, narrowed := true }
def RingUptoSaid : Prop := ringUptoRow.holds Try.pinned (OpenSpec.upto ringSpec)

/-- 'fascinekeep.Whole', WHERE WHAT IT READS IS OF BULK AT MOST 1048576: true; the input reads as it did. -/
def wholeUptoRow : OpenClaim := { program := "ytmfpiodlecapiaa", sum := "991490e968f94b73801f73f9c36eaf387da205976a5b2923e4715134978c70a5", func := "fascine/fascinekeep.Whole", spec := "whole", apart := false, narrowed := true }
def WholeUptoSaid : Prop := wholeUptoRow.holds Try.pinned (OpenSpec.upto wholeSpec)

/-- 'fascinekeep.Adds', WHERE WHAT IT READS IS OF BULK AT MOST 1048576: true; the input reads as it did. -/
def addsUptoRow : OpenClaim := { program := "ytmfpiodlecapiaa", sum := "991490e968f94b73801f73f9c36eaf387da205976a5b2923e4715134978c70a5", func := "fascine/fascinekeep.Adds", spec := "adds", apart := false, narrowed := true }
def AddsUptoSaid : Prop := addsUptoRow.holds Try.pinned (OpenSpec.upto addsSpec)

/-- 'fascinekeep.Mixed', WHERE WHAT IT READS IS OF BULK AT MOST 1048576: true; the input reads as it did. -/
def mixedUptoRow : OpenClaim := { program := "ytmfpiodlecapiaa", sum := "991490e968f94b73801f73f9c36eaf387da205976a5b2923e4715134978c70a5", func := "fascine/fascinekeep.Mixed", spec := "mixed", inPlace := ["(*sync.WaitGroup).Add", "internal/race.ReleaseMerge", "internal/race.Disable", "internal/race.Enable", "internal/synctest.IsInBubble", "internal/synctest.Associate[sync.WaitGroup]", "sync.fatal", "sync/atomic.OrUint64", "sync/atomic.AddUint64", "internal/race.Read", "sync/atomic.LoadUint64", "sync/atomic.StoreUint64", "internal/synctest.Disassociate[sync.WaitGroup]", "sync.runtime_Semrelease", "(*sync.WaitGroup).Done", "internal/bytealg.MakeNoZero", "(*sync.WaitGroup).Wait", "internal/race.Acquire", "internal/synctest.IsAssociated[sync.WaitGroup]", "sync/atomic.CompareAndSwapUint64", "internal/race.Write", "sync.runtime_SemacquireWaitGroup"], unfollowed := true, recurses := true, leaving := true, apart := false, narrowed := true }
def MixedUptoSaid : Prop := mixedUptoRow.holds Try.pinned (OpenSpec.upto mixedSpec)

end Rows
end Go.Proofs.Ytmfpiodlecapiaa
