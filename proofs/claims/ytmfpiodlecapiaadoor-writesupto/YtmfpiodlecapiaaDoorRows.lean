/-
  NARROWER THAN 'FOR EVERY INPUT', by the rows' own cells (each row's printed sentence says how): Writes: laid.
  DERIVED. THE GIVEN ROWS OF THIS SEAT. 1 by the template 'for every input the law returns true; each argument reads behind the call as it read before'; 0 by the template 'total and deterministic' (their statements: YtmfpiodlecapiaaDoorTotals.lean).
  GIVEN WITH THE SEED: the statements are not yours to turn. If you find one false, say at which input.
  Laid BY PROGRAM, IN A SANDBOX (cutbox-rows.mjs): the forced cells as the released guide's own fill.sh prints them over the translation 55ba54b51a1e73cc… (all of the seat's roots in one cut). By AI agents, Wed Nov 11 2026. No macro, syntax, notation, axiom, sorry.
-/
import Derived.Test.YtmfpiodlecapiaaDoorChecked
import GoSem.Claim
import GoSem.ClaimJoined
import GoSem.ClaimMapViews
import Derived.JoinedTies
import Derived.KernelRfl
namespace Go.Proofs.YtmfpiodlecapiaaDoor
/- THE CELL 'sum', in the pinned program and in every row, IS THE sha256 OF THE DUMP (.gsa) THAT YtmfpiodlecapiaaDoorProg.lean LOADS. Nothing in Lean hashes anything: it is a label: what it is worth is what the hold of that sum in a sandbox is worth. -/
noncomputable def Tryd.pinned : Pinned := { name := "ytmfpiodlecapiaadoor", sum := "55ba54b51a1e73cc05065a0eb0e15cf8770358c7db39984eae20df97a0ea91f2", checked := Tryd.checked }
namespace Rows
def none {H : Type} : Left H := { results := [], args := [] }

/- WHAT THE LISTED PACKAGE-LEVEL VARIABLES READ AS WHEN THE CALL BEGINS. Each datum BY PROGRAM (the guide's laid-datum.mjs) off the statement by which the dump's own 'gosem.cut.vars' lays the variable. In a bare row this is a premise. The card (YtmfpiodlecapiaaDoorCards.lean) ties it to the program's text. -/
def laid_fascine_letters_alphabet {H : Type} : DataW H := .agg [.lit (.int .i32 65), .lit (.int .i32 66), .lit (.int .i32 67), .lit (.int .i32 68), .lit (.int .i32 69), .lit (.int .i32 70), .lit (.int .i32 71), .lit (.int .i32 72), .lit (.int .i32 73), .lit (.int .i32 74), .lit (.int .i32 75), .lit (.int .i32 76), .lit (.int .i32 77), .lit (.int .i32 78), .lit (.int .i32 79), .lit (.int .i32 80), .lit (.int .i32 81), .lit (.int .i32 82), .lit (.int .i32 83), .lit (.int .i32 84), .lit (.int .i32 85), .lit (.int .i32 86), .lit (.int .i32 87), .lit (.int .i32 88), .lit (.int .i32 89), .lit (.int .i32 90), .lit (.int .i32 97), .lit (.int .i32 98), .lit (.int .i32 99), .lit (.int .i32 100), .lit (.int .i32 101), .lit (.int .i32 102), .lit (.int .i32 103), .lit (.int .i32 104), .lit (.int .i32 105), .lit (.int .i32 106), .lit (.int .i32 107), .lit (.int .i32 108), .lit (.int .i32 109), .lit (.int .i32 110), .lit (.int .i32 111), .lit (.int .i32 112), .lit (.int .i32 113), .lit (.int .i32 114), .lit (.int .i32 115), .lit (.int .i32 116), .lit (.int .i32 117), .lit (.int .i32 118), .lit (.int .i32 119), .lit (.int .i32 120), .lit (.int .i32 121), .lit (.int .i32 122), .lit (.int .i32 945), .lit (.int .i32 946), .lit (.int .i32 947), .lit (.int .i32 948), .lit (.int .i32 949), .lit (.int .i32 950), .lit (.int .i32 951), .lit (.int .i32 952), .lit (.int .i32 953), .lit (.int .i32 954), .lit (.int .i32 955), .lit (.int .i32 956)]

/-- 'fascinelaw.Writes': WHATEVER THE INPUT: true; the input reads as it did. -/
def writesSpec : ChangeSpec := { name := "writes", fn := fun _ => fun
  | [d1, d2] => { results := [.lit (.bool true)], args := [d1, d2] }
  | _ => none }
def writesRow : OpenClaim := { program := "ytmfpiodlecapiaadoor", sum := "55ba54b51a1e73cc05065a0eb0e15cf8770358c7db39984eae20df97a0ea91f2", func := "fascine/fascinelaw.Writes", spec := "writes", inPlace := ["internal/abi.NoEscape"], unfollowed := true, recurses := true, named := ["fascine/letters.alphabet"], apart := false, laid := [("fascine/letters.alphabet", laid_fascine_letters_alphabet)] }
def WritesSaid : Prop := writesRow.holds Tryd.pinned (OpenSpec.ofChange writesSpec)

/-- ITS FALSE NEIGHBOUR: 'it returns false'. Refute it at one input. -/
def writesWrong : ChangeSpec := { name := "writes", fn := fun _ => fun
  | [d1, d2] => { results := [.lit (.bool false)], args := [d1, d2] }
  | _ => none }
def WritesWrongFalsely : Prop := writesRow.holds Tryd.pinned (OpenSpec.ofChange writesWrong)

/- THE SECOND FORM. 'bulk': how many values and letters a reading holds, each counted each time it is reached (what is shared counts as often as it is met; a slice's spare places count too). A statement '..UptoSaid' is the law's where the arguments, and the package variables that the reading takes, are together of bulk at most 1048576: NARROWER than '..Said'. Prove '..Said' where nothing that the law and all that it calls make is longer than what came in: it says more and counts as full. Else prove '..UptoSaid'. A law counts once. -/
mutual
def uptoBulk {H : Type} : DataW H → Nat
  | .lit (.string bytes) => bytes.length + 1
  | .lit _ => 1
  | .nil => 1
  | .ptr d => uptoBulk d + 1
  | .slice elems spare => uptoBulkAll elems + uptoBulkAll spare + 1
  | .agg parts => uptoBulkAll parts + 1
  | .iface _ d => uptoBulk d + 1
  | .map entries => uptoBulkEntries entries + 1
  | .held _ => 1
def uptoBulkAll {H : Type} : List (DataW H) → Nat
  | [] => 0
  | d :: r => uptoBulk d + uptoBulkAll r
def uptoBulkEntries {H : Type} : List (Lit × DataW H) → Nat
  | [] => 0
  | x :: r => uptoBulkEntry x + uptoBulkEntries r
def uptoBulkEntry {H : Type} : Lit × DataW H → Nat
  | (.string bytes, d) => bytes.length + uptoBulk d + 1
  | (_, d) => uptoBulk d + 1
 end
def uptoSmall : (H : Type) → List (DataW H) → Bool := fun _ ds => decide (uptoBulkAll ds ≤ 1048576)
def OpenSpec.upto (s : _root_.Go.ChangeSpec) : _root_.Go.OpenSpec := { _root_.Go.OpenSpec.ofChange s with cond := some uptoSmall }

/-- 'fascinelaw.Writes', WHERE WHAT IT READS IS OF BULK AT MOST 1048576: true; the input reads as it did. -/
def writesUptoRow : OpenClaim := { program := "ytmfpiodlecapiaadoor", sum := "55ba54b51a1e73cc05065a0eb0e15cf8770358c7db39984eae20df97a0ea91f2", func := "fascine/fascinelaw.Writes", spec := "writes", inPlace := ["internal/abi.NoEscape"], unfollowed := true, recurses := true, named := ["fascine/letters.alphabet"], apart := false, laid := [("fascine/letters.alphabet", laid_fascine_letters_alphabet)], narrowed := true }
def WritesUptoSaid : Prop := writesUptoRow.holds Tryd.pinned (OpenSpec.upto writesSpec)

end Rows
end Go.Proofs.YtmfpiodlecapiaaDoor
