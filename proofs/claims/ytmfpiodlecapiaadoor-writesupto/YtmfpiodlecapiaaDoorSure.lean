/- The document's first and third examples, as the statements' own head asks for them. -/
import Derived.Test.YtmfpiodlecapiaaDoorPackets
import Derived.Laws.BytesArg
import Derived.Lib.SlBytesConst
namespace Go.Proofs.YtmfpiodlecapiaaDoor
open Go.RowKit Go.Deep

/- Bytes as a string. -/
def strOf (bs : List Nat) : ByteArray := strOfNums (bs.map (fun n : Nat => (n : Int)))
theorem strOf_eq (bs : List Nat) : strOf bs = ⟨(bs.map (fun n : Nat => UInt8.ofNat n)).toArray⟩ := by
  unfold strOf strOfNums
  congr 2
  simp
theorem conv_str {w : World} {g off cap n : Nat} {L : List Value} {bs : List Nat} (hr : RowL w g 5 L) (hl : bs.length = n) (hL : ∀ j, j < n → L[off + j]? = some (.int .u8 ((bs[j]?.getD 0 : Nat) : Int))) :
    (convert 27 9 (.slice (some ⟨g, off, none⟩) n cap)).run Tryd.prog w = .ok (.string (strOf bs)) w := by
  refine run_convert_bytes_arg w 27 5 Tryd.underlying27 Tryd.underlying5 g off n cap (bs.map (fun n : Nat => (n : Int))) (by simpa using hl) ?_ 9 Tryd.underlying9
  intro i hi
  rw [hr.cell _ _ (hL i hi)]
  simp [List.getD, hl ▸ hi]
theorem conv_row {w : World} {g cap n : Nat} {bs : List Nat} (hr : RowL w g 5 (u8s bs)) (hl : bs.length = n) : (convert 27 9 (.slice (some ⟨g, 0, none⟩) n cap)).run Tryd.prog w = .ok (.string (strOf bs)) w :=
  conv_str hr hl (fun j hj => by rw [Nat.zero_add]; exact u8s_at (by omega))

theorem cell_alloc_any (w : World) (C : Array Value) (e : TypeId) (fr : Nat × Nat) (i : Nat) (v : Value) (hv : C[i]? = some v) : (w.alloc (.cells C e fr)).cell? ⟨w.heap.size, i, none⟩ = some v := by
  have h := blk_alloc_new w (.cells C e fr)
  unfold World.cell?
  rw [show (w.alloc (.cells C e fr)).heap[(⟨w.heap.size, i, none⟩ : Addr).block]? = _ from h]
  exact hv

theorem ex1 : Gf.mul 2 128 = 29 := by decide +kernel
theorem ex2 : Gf.inv 2 = 142 := by decide +kernel
theorem ex3 : Pk.packets 5 [97, 98] 2 1 1 = [[70, 0, 5, 0, 2, 2, 1, 1, 0, 0, 97, 98], [70, 0, 5, 0, 2, 2, 1, 1, 0, 1, 154, 128]] := by decide +kernel
theorem ex3' : Cut.blocks (Cut.pieces 2 2) 1 ≤ 256 := by decide +kernel

end Go.Proofs.YtmfpiodlecapiaaDoor
