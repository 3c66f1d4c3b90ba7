/-
  NARROWER THAN 'FOR EVERY INPUT', by the rows' own cells (each row's printed sentence says how): Hears: laid · Any: laid · Through: laid · All: laid.
  DERIVED. THE GIVEN ROWS OF THIS SEAT. 4 by the template 'for every input the law returns true; each argument reads behind the call as it read before'; 0 by the template 'total and deterministic' (their statements: YtmfpiodlecapiaaGreatDoorTotals.lean).
  GIVEN WITH THE SEED: the statements are not yours to turn. If you find one false, say at which input.
  Laid BY PROGRAM, IN A SANDBOX (cutbox-rows.mjs): the forced cells as the released guide's own fill.sh prints them over the translation 251c3b76df0114c8… (all of the seat's roots in one cut). By AI agents, Wed Nov 11 2026. No macro, syntax, notation, axiom, sorry.
-/
import Derived.Test.YtmfpiodlecapiaaGreatDoorChecked
import GoSem.PinnedTables
import GoSem.Claim
import GoSem.ClaimJoined
import GoSem.ClaimMapViews
import Derived.JoinedTies
import Derived.KernelRfl
namespace Go.Proofs.YtmfpiodlecapiaaGreatDoor
/- THE CELL 'sum', in the pinned program and in every row, IS THE sha256 OF THE DUMP (.gsa) THAT YtmfpiodlecapiaaGreatDoorProg.lean LOADS. Nothing in Lean hashes anything: it is a label: what it is worth is what the hold of that sum in a sandbox is worth. -/
noncomputable def Tryz.pinned : Pinned := { name := "ytmfpiodlecapiaagreatdoor", sum := "251c3b76df0114c860baed6adfd88cfd8e8b9f33e4b80838a643052c221b4c46", checked := Tryz.checked }
namespace Rows
def none {H : Type} : Left H := { results := [], args := [] }

/- WHAT THE LISTED PACKAGE-LEVEL VARIABLES READ AS WHEN THE CALL BEGINS. Each datum BY PROGRAM (the guide's laid-datum.mjs) off the statement by which the dump's own 'gosem.cut.vars' lays the variable. In a bare row this is a premise. The card (YtmfpiodlecapiaaGreatDoorCards.lean) ties it to the program's text. -/
def laid_unicode_utf8_acceptRanges {H : Type} : DataW H := .agg [.agg [.lit (.int .u8 128), .lit (.int .u8 191)], .agg [.lit (.int .u8 160), .lit (.int .u8 191)], .agg [.lit (.int .u8 128), .lit (.int .u8 159)], .agg [.lit (.int .u8 144), .lit (.int .u8 191)], .agg [.lit (.int .u8 128), .lit (.int .u8 143)], .agg [.lit (.int .u8 0), .lit (.int .u8 0)], .agg [.lit (.int .u8 0), .lit (.int .u8 0)], .agg [.lit (.int .u8 0), .lit (.int .u8 0)], .agg [.lit (.int .u8 0), .lit (.int .u8 0)], .agg [.lit (.int .u8 0), .lit (.int .u8 0)], .agg [.lit (.int .u8 0), .lit (.int .u8 0)], .agg [.lit (.int .u8 0), .lit (.int .u8 0)], .agg [.lit (.int .u8 0), .lit (.int .u8 0)], .agg [.lit (.int .u8 0), .lit (.int .u8 0)], .agg [.lit (.int .u8 0), .lit (.int .u8 0)], .agg [.lit (.int .u8 0), .lit (.int .u8 0)]]
def laid_fascine_letters_alphabet {H : Type} : DataW H := .agg [.lit (.int .i32 65), .lit (.int .i32 66), .lit (.int .i32 67), .lit (.int .i32 68), .lit (.int .i32 69), .lit (.int .i32 70), .lit (.int .i32 71), .lit (.int .i32 72), .lit (.int .i32 73), .lit (.int .i32 74), .lit (.int .i32 75), .lit (.int .i32 76), .lit (.int .i32 77), .lit (.int .i32 78), .lit (.int .i32 79), .lit (.int .i32 80), .lit (.int .i32 81), .lit (.int .i32 82), .lit (.int .i32 83), .lit (.int .i32 84), .lit (.int .i32 85), .lit (.int .i32 86), .lit (.int .i32 87), .lit (.int .i32 88), .lit (.int .i32 89), .lit (.int .i32 90), .lit (.int .i32 97), .lit (.int .i32 98), .lit (.int .i32 99), .lit (.int .i32 100), .lit (.int .i32 101), .lit (.int .i32 102), .lit (.int .i32 103), .lit (.int .i32 104), .lit (.int .i32 105), .lit (.int .i32 106), .lit (.int .i32 107), .lit (.int .i32 108), .lit (.int .i32 109), .lit (.int .i32 110), .lit (.int .i32 111), .lit (.int .i32 112), .lit (.int .i32 113), .lit (.int .i32 114), .lit (.int .i32 115), .lit (.int .i32 116), .lit (.int .i32 117), .lit (.int .i32 118), .lit (.int .i32 119), .lit (.int .i32 120), .lit (.int .i32 121), .lit (.int .i32 122), .lit (.int .i32 945), .lit (.int .i32 946), .lit (.int .i32 947), .lit (.int .i32 948), .lit (.int .i32 949), .lit (.int .i32 950), .lit (.int .i32 951), .lit (.int .i32 952), .lit (.int .i32 953), .lit (.int .i32 954), .lit (.int .i32 955), .lit (.int .i32 956)]
/-- One of Go's own tables, pinned by name: the form's constant. -/
def laid_unicode_utf8_first : DataW Unit := Go.Pinned.utf8First

/-- 'fascinelaw.Hears': WHATEVER THE INPUT: true; the input reads as it did. -/
def hearsSpec : ChangeSpec := { name := "hears", fn := fun _ => fun
  | [d] => { results := [.lit (.bool true)], args := [d] }
  | _ => none }
def hearsRow : OpenClaim := { program := "ytmfpiodlecapiaagreatdoor", sum := "251c3b76df0114c860baed6adfd88cfd8e8b9f33e4b80838a643052c221b4c46", func := "fascine/fascinelaw.Hears", spec := "hears", inPlace := ["(*sync.WaitGroup).Add", "internal/race.ReleaseMerge", "internal/race.Disable", "internal/race.Enable", "internal/synctest.IsInBubble", "internal/synctest.Associate[sync.WaitGroup]", "sync.fatal", "sync/atomic.OrUint64", "sync/atomic.AddUint64", "internal/race.Read", "sync/atomic.LoadUint64", "sync/atomic.StoreUint64", "internal/synctest.Disassociate[sync.WaitGroup]", "sync.runtime_Semrelease", "(*sync.WaitGroup).Done", "internal/bytealg.MakeNoZero", "(*sync.WaitGroup).Wait", "internal/race.Acquire", "internal/synctest.IsAssociated[sync.WaitGroup]", "sync/atomic.CompareAndSwapUint64", "internal/race.Write", "sync.runtime_SemacquireWaitGroup", "internal/bytealg.CountString", "internal/bytealg.IndexByteString", "internal/bytealg.IndexString"], unfollowed := true, recurses := true, named := ["unicode/utf8.first", "unicode/utf8.acceptRanges", "internal/bytealg.MaxLen", "fascine/letters.alphabet"], leaving := true, apart := false, laid := [("unicode/utf8.acceptRanges", laid_unicode_utf8_acceptRanges), ("fascine/letters.alphabet", laid_fascine_letters_alphabet), ("unicode/utf8.first", laid_unicode_utf8_first)] }
def HearsSaid : Prop := hearsRow.holds Tryz.pinned (OpenSpec.ofChange hearsSpec)

/-- ITS FALSE NEIGHBOUR: 'it returns false'. Refute it at one input. -/
def hearsWrong : ChangeSpec := { name := "hears", fn := fun _ => fun
  | [d] => { results := [.lit (.bool false)], args := [d] }
  | _ => none }
def HearsWrongFalsely : Prop := hearsRow.holds Tryz.pinned (OpenSpec.ofChange hearsWrong)

/-- 'fascinekeep.Any': WHATEVER THE INPUT: true; the input reads as it did. -/
def anySpec : ChangeSpec := { name := "any", fn := fun _ => fun
  | [d1, d2, d3, d4, d5, d6, d7] => { results := [.lit (.bool true)], args := [d1, d2, d3, d4, d5, d6, d7] }
  | _ => none }
def anyRow : OpenClaim := { program := "ytmfpiodlecapiaagreatdoor", sum := "251c3b76df0114c860baed6adfd88cfd8e8b9f33e4b80838a643052c221b4c46", func := "fascine/fascinekeep.Any", spec := "any", inPlace := ["(*sync.WaitGroup).Add", "internal/race.ReleaseMerge", "internal/race.Disable", "internal/race.Enable", "internal/synctest.IsInBubble", "internal/synctest.Associate[sync.WaitGroup]", "sync.fatal", "sync/atomic.OrUint64", "sync/atomic.AddUint64", "internal/race.Read", "sync/atomic.LoadUint64", "sync/atomic.StoreUint64", "internal/synctest.Disassociate[sync.WaitGroup]", "sync.runtime_Semrelease", "(*sync.WaitGroup).Done", "internal/bytealg.MakeNoZero", "(*sync.WaitGroup).Wait", "internal/race.Acquire", "internal/synctest.IsAssociated[sync.WaitGroup]", "sync/atomic.CompareAndSwapUint64", "internal/race.Write", "sync.runtime_SemacquireWaitGroup", "internal/abi.NoEscape", "internal/bytealg.CountString", "internal/bytealg.IndexByteString", "internal/bytealg.IndexString"], unfollowed := true, recurses := true, named := ["fascine/letters.alphabet", "unicode/utf8.first", "unicode/utf8.acceptRanges", "internal/bytealg.MaxLen"], leaving := true, apart := false, laid := [("unicode/utf8.acceptRanges", laid_unicode_utf8_acceptRanges), ("fascine/letters.alphabet", laid_fascine_letters_alphabet), ("unicode/utf8.first", laid_unicode_utf8_first)] }
def AnySaid : Prop := anyRow.holds Tryz.pinned (OpenSpec.ofChange anySpec)

/-- ITS FALSE NEIGHBOUR: 'it returns false'. Refute it at one input. -/
def anyWrong : ChangeSpec := { name := "any", fn := fun _ => fun
  | [d1, d2, d3, d4, d5, d6, d7] => { results := [.lit (.bool false)], args := [d1, d2, d3, d4, d5, d6, d7] }
  | _ => none }
def AnyWrongFalsely : Prop := anyRow.holds Tryz.pinned (OpenSpec.ofChange anyWrong)

/-- 'fascinekeep.Through': WHATEVER THE INPUT: true; the input reads as it did. -/
def throughSpec : ChangeSpec := { name := "through", fn := fun _ => fun
  | [d1, d2, d3, d4, d5, d6, d7] => { results := [.lit (.bool true)], args := [d1, d2, d3, d4, d5, d6, d7] }
  | _ => none }
def throughRow : OpenClaim := { program := "ytmfpiodlecapiaagreatdoor", sum := "251c3b76df0114c860baed6adfd88cfd8e8b9f33e4b80838a643052c221b4c46", func := "fascine/fascinekeep.Through", spec := "through", inPlace := ["(*sync.WaitGroup).Add", "internal/race.ReleaseMerge", "internal/race.Disable", "internal/race.Enable", "internal/synctest.IsInBubble", "internal/synctest.Associate[sync.WaitGroup]", "sync.fatal", "sync/atomic.OrUint64", "sync/atomic.AddUint64", "internal/race.Read", "sync/atomic.LoadUint64", "sync/atomic.StoreUint64", "internal/synctest.Disassociate[sync.WaitGroup]", "sync.runtime_Semrelease", "(*sync.WaitGroup).Done", "internal/bytealg.MakeNoZero", "(*sync.WaitGroup).Wait", "internal/race.Acquire", "internal/synctest.IsAssociated[sync.WaitGroup]", "sync/atomic.CompareAndSwapUint64", "internal/race.Write", "sync.runtime_SemacquireWaitGroup", "internal/abi.NoEscape", "internal/bytealg.CountString", "internal/bytealg.IndexByteString", "internal/bytealg.IndexString"], unfollowed := true, recurses := true, named := ["fascine/letters.alphabet", "unicode/utf8.first", "unicode/utf8.acceptRanges", "internal/bytealg.MaxLen"], leaving := true, apart := false, laid := [("unicode/utf8.acceptRanges", laid_unicode_utf8_acceptRanges), ("fascine/letters.alphabet", laid_fascine_letters_alphabet), ("unicode/utf8.first", laid_unicode_utf8_first)] }
def ThroughSaid : Prop := throughRow.holds Tryz.pinned (OpenSpec.ofChange throughSpec)

/-- ITS FALSE NEIGHBOUR: 'it returns false'. Refute it at one input. -/
def throughWrong : ChangeSpec := { name := "through", fn := fun _ => fun
  | [d1, d2, d3, d4, d5, d6, d7] => { results := [.lit (.bool false)], args := [d1, d2, d3, d4, d5, d6, d7] }
  | _ => none }
def ThroughWrongFalsely : Prop := throughRow.holds Tryz.pinned (OpenSpec.ofChange throughWrong)

/-- 'fascinelaw.All': WHATEVER THE INPUT: true; the input reads as it did. -/
def allSpec : ChangeSpec := { name := "all", fn := fun _ => fun
  | [d] => { results := [.lit (.bool true)], args := [d] }
  | _ => none }
def allRow : OpenClaim := { program := "ytmfpiodlecapiaagreatdoor", sum := "251c3b76df0114c860baed6adfd88cfd8e8b9f33e4b80838a643052c221b4c46", func := "fascine/fascinelaw.All", spec := "all", inPlace := ["(*sync.WaitGroup).Add", "internal/race.ReleaseMerge", "internal/race.Disable", "internal/race.Enable", "internal/synctest.IsInBubble", "internal/synctest.Associate[sync.WaitGroup]", "sync.fatal", "sync/atomic.OrUint64", "sync/atomic.AddUint64", "internal/race.Read", "sync/atomic.LoadUint64", "sync/atomic.StoreUint64", "internal/synctest.Disassociate[sync.WaitGroup]", "sync.runtime_Semrelease", "(*sync.WaitGroup).Done", "internal/bytealg.MakeNoZero", "(*sync.WaitGroup).Wait", "internal/race.Acquire", "internal/synctest.IsAssociated[sync.WaitGroup]", "sync/atomic.CompareAndSwapUint64", "internal/race.Write", "sync.runtime_SemacquireWaitGroup", "internal/bytealg.CountString", "internal/bytealg.IndexByteString", "internal/bytealg.IndexString"], unfollowed := true, recurses := true, named := ["unicode/utf8.first", "unicode/utf8.acceptRanges", "internal/bytealg.MaxLen", "fascine/letters.alphabet"], leaving := true, apart := false, laid := [("unicode/utf8.acceptRanges", laid_unicode_utf8_acceptRanges), ("fascine/letters.alphabet", laid_fascine_letters_alphabet), ("unicode/utf8.first", laid_unicode_utf8_first)] }
def AllSaid : Prop := allRow.holds Tryz.pinned (OpenSpec.ofChange allSpec)

/-- ITS FALSE NEIGHBOUR: 'it returns false'. Refute it at one input. -/
def allWrong : ChangeSpec := { name := "all", fn := fun _ => fun
  | [d] => { results := [.lit (.bool false)], args := [d] }
  | _ => none }
def AllWrongFalsely : Prop := allRow.holds Tryz.pinned (OpenSpec.ofChange allWrong)

/- THE SECOND FORM. 'bulk': how many values and letters a reading holds, each counted each time it is reached (what is shared counts as often as it is met; a slice's spare places count too). A statement '..UptoSaid' is the law's where the arguments, and the package variables that the reading takes, are together of bulk at most 1048576: NARROWER than '..Said'. Prove '..Said' where nothing that the law and all that it calls make is longer than what came in: it says more and counts as full. Else prove '..UptoSaid'. A law counts once. -/
mutual
def uptoBulk {H : Type} : DataW H → Nat
  | .lit (.string bytes) => bytes.length + 1
  | .lit _ => 1
  | .nil => 1
  | .ptr d => uptoBulk d + 1
  | .slice elems spare => uptoBulkAll elems + uptoBulkAll spare + 1
  | .agg parts => uptoBulkAll parts + 1
  | .iface _ d => uptoBulk d + 1
  | .map entries => uptoBulkEntries entries + 1
  | .held _ => 1
def uptoBulkAll {H : Type} : List (DataW H) → Nat
  | [] => 0
  | d :: r => uptoBulk d + uptoBulkAll r
def uptoBulkEntries {H : Type} : List (Lit × DataW H) → Nat
  | [] => 0
  | x :: r => uptoBulkEntry x + uptoBulkEntries r
def uptoBulkEntry {H : Type} : Lit × DataW H → Nat
  | (.string bytes, d) => bytes.length + uptoBulk d + 1
  | (_, d) => uptoBulk d + 1
 end
def uptoSmall : (H : Type) → List (DataW H) → Bool := fun _ ds => decide (uptoBulkAll ds ≤ 1048576)
def OpenSpec.upto (s : _root_.Go.ChangeSpec) : _root_.Go.OpenSpec := { _root_.Go.OpenSpec.ofChange s with cond := some uptoSmall }

/-- 'fascinelaw.Hears', WHERE WHAT IT READS IS OF BULK AT MOST 1048576: true; the input reads as it did. -/
def hearsUptoRow : OpenClaim := { program := "ytmfpiodlecapiaagreatdoor", sum := "251c3b76df0114c860baed6adfd88cfd8e8b9f33e4b80838a643052c221b4c46", func := "fascine/fascinelaw.Hears", spec := "hears", inPlace := ["(*sync.WaitGroup).Add", "internal/race.ReleaseMerge", "internal/race.Disable", "internal/race.Enable", "internal/synctest.IsInBubble", "internal/synctest.Associate[sync.WaitGroup]", "sync.fatal", "sync/atomic.OrUint64", "sync/atomic.AddUint64", "internal/race.Read", "sync/atomic.LoadUint64", "sync/atomic.StoreUint64", "internal/synctest.Disassociate[sync.WaitGroup]", "sync.runtime_Semrelease", "(*sync.WaitGroup).Done", "internal/bytealg.MakeNoZero", "(*sync.WaitGroup).Wait", "internal/race.Acquire", "internal/synctest.IsAssociated[sync.WaitGroup]", "sync/atomic.CompareAndSwapUint64", "internal/race.Write", "sync.runtime_SemacquireWaitGroup", "internal/bytealg.CountString", "internal/bytealg.IndexByteString", "internal/bytealg.IndexString"], unfollowed := true, recurses := true, named := ["unicode/utf8.first", "unicode/utf8.acceptRanges", "internal/bytealg.MaxLen", "fascine/letters.alphabet"], leaving := true, apart := false, laid := [("unicode/utf8.acceptRanges", laid_unicode_utf8_acceptRanges), ("fascine/letters.alphabet", laid_fascine_letters_alphabet), ("unicode/utf8.first", laid_unicode_utf8_first)], narrowed := true }
def HearsUptoSaid : Prop := hearsUptoRow.holds Tryz.pinned (OpenSpec.upto hearsSpec)

/-- 'fascinekeep.Any', WHERE WHAT IT READS IS OF BULK AT MOST 1048576: true; the input reads as it did. -/
def anyUptoRow : OpenClaim := { program := "ytmfpiodlecapiaagreatdoor", sum := "251c3b76df0114c860baed6adfd88cfd8e8b9f33e4b80838a643052c221b4c46", func := "fascine/fascinekeep.Any", spec := "any", inPlace := ["(*sync.WaitGroup).Add", "internal/race.ReleaseMerge", "internal/race.Disable", "internal/race.Enable", "internal/synctest.IsInBubble", "internal/synctest.Associate[sync.WaitGroup]", "sync.fatal", "sync/atomic.OrUint64", "sync/atomic.AddUint64", "internal/race.Read", "sync/atomic.LoadUint64", "sync/atomic.StoreUint64", "internal/synctest.Disassociate[sync.WaitGroup]", "sync.runtime_Semrelease", "(*sync.WaitGroup).Done", "internal/bytealg.MakeNoZero", "(*sync.WaitGroup).Wait", "internal/race.Acquire", "internal/synctest.IsAssociated[sync.WaitGroup]", "sync/atomic.CompareAndSwapUint64", "internal/race.Write", "sync.runtime_SemacquireWaitGroup", "internal/abi.NoEscape", "internal/bytealg.CountString", "internal/bytealg.IndexByteString", "internal/bytealg.IndexString"], unfollowed := true, recurses := true, named := ["fascine/letters.alphabet", "unicode/utf8.first", "unicode/utf8.acceptRanges", "internal/bytealg.MaxLen"], leaving := true, apart := false, laid := [("unicode/utf8.acceptRanges", laid_unicode_utf8_acceptRanges), ("fascine/letters.alphabet", laid_fascine_letters_alphabet), ("unicode/utf8.first", laid_unicode_utf8_first)], narrowed := true }
def AnyUptoSaid : Prop := anyUptoRow.holds Tryz.pinned (OpenSpec.upto anySpec)

/-- 'fascinekeep.Through', WHERE WHAT IT READS IS OF BULK AT MOST 1048576: true; the input reads as it did. -/
def throughUptoRow : OpenClaim := { program := "ytmfpiodlecapiaagreatdoor", sum := "251c3b76df0114c860baed6adfd88cfd8e8b9f33e4b80838a643052c221b4c46", func := "fascine/fascinekeep.Through", spec := "through", inPlace := ["(*sync.WaitGroup).Add", "internal/race.ReleaseMerge", "internal/race.Disable", "internal/race.Enable", "internal/synctest.IsInBubble", "internal/synctest.Associate[sync.WaitGroup]", "sync.fatal", "sync/atomic.OrUint64", "sync/atomic.AddUint64", "internal/race.Read", "sync/atomic.LoadUint64", "sync/atomic.StoreUint64", "internal/synctest.Disassociate[sync.WaitGroup]", "sync.runtime_Semrelease", "(*sync.WaitGroup).Done", "internal/bytealg.MakeNoZero", "(*sync.WaitGroup).Wait", "internal/race.Acquire", "internal/synctest.IsAssociated[sync.WaitGroup]", "sync/atomic.CompareAndSwapUint64", "internal/race.Write", "sync.runtime_SemacquireWaitGroup", "internal/abi.NoEscape", "internal/bytealg.CountString", "internal/bytealg.IndexByteString", "internal/bytealg.IndexString"], unfollowed := true, recurses := true, named := ["fascine/letters.alphabet", "unicode/utf8.first", "unicode/utf8.acceptRanges", "internal/bytealg.MaxLen"], leaving := true, apart := false, laid := [("unicode/utf8.acceptRanges", laid_unicode_utf8_acceptRanges), ("fascine/letters.alphabet", laid_fascine_letters_alphabet), ("unicode/utf8.first", laid_unicode_utf8_first)], narrowed := true }
def ThroughUptoSaid : Prop := throughUptoRow.holds Tryz.pinned (OpenSpec.upto throughSpec)

/-- 'fascinelaw.All', WHERE WHAT IT READS IS OF BULK AT MOST 1048576: true; the input reads as it did. -/
def allUptoRow : OpenClaim := { program := "ytmfpiodlecapiaagreatdoor", sum := "251c3b76df0114c860baed6adfd88cfd8e8b9f33e4b80838a643052c221b4c46", func := "fascine/fascinelaw.All", spec := "all", inPlace := ["(*sync.WaitGroup).Add", "internal/race.ReleaseMerge", "internal/race.Disable", "internal/race.Enable", "internal/synctest.IsInBubble", "internal/synctest.Associate[sync.WaitGroup]", "sync.fatal", "sync/atomic.OrUint64", "sync/atomic.AddUint64", "internal/race.Read", "sync/atomic.LoadUint64", "sync/atomic.StoreUint64", "internal/synctest.Disassociate[sync.WaitGroup]", "sync.runtime_Semrelease", "(*sync.WaitGroup).Done", "internal/bytealg.MakeNoZero", "(*sync.WaitGroup).Wait", "internal/race.Acquire", "internal/synctest.IsAssociated[sync.WaitGroup]", "sync/atomic.CompareAndSwapUint64", "internal/race.Write", "sync.runtime_SemacquireWaitGroup", "internal/bytealg.CountString", "internal/bytealg.IndexByteString", "internal/bytealg.IndexString"], unfollowed := true, recurses := true, named := ["unicode/utf8.first", "unicode/utf8.acceptRanges", "internal/bytealg.MaxLen", "fascine/letters.alphabet"], leaving := true, apart := false, laid := [("unicode/utf8.acceptRanges", laid_unicode_utf8_acceptRanges), ("fascine/letters.alphabet", laid_fascine_letters_alphabet), ("unicode/utf8.first", laid_unicode_utf8_first)], narrowed := true }
def AllUptoSaid : Prop := allUptoRow.holds Tryz.pinned (OpenSpec.upto allSpec)

end Rows
end Go.Proofs.YtmfpiodlecapiaaGreatDoor
