/- What package cut answers on pieces: the document's spare pieces. -/
import Derived.Test.YtmfpiodlecapiaaDoorFieldWalks
import Derived.Test.YtmfpiodlecapiaaDoorBlocksWalks
import Derived.Test.YtmfpiodlecapiaaDoorApp
import Derived.Test.YtmfpiodlecapiaaDoorPackSpec
import Derived.BigQuiet
import Derived.Deep.QuietTactic
import Derived.Deep.RegionWith
import Derived.Deep.DrawnRows
namespace Go.Proofs.YtmfpiodlecapiaaDoor
open Go.RowKit Go.Deep
attribute [local go_sem ↓] Go.wp_at_zero Go.wp_at_succ

/- The bytes that a slice shows. -/
def Bytes (w : World) (v : Value) (bs : List Nat) : Prop :=
  ∃ b off cap, v = .slice (some ⟨b, off, none⟩) bs.length cap ∧ bs.length ≤ cap ∧ (∀ x ∈ bs, x < 256) ∧ ∀ j, j < bs.length → w.cell? ⟨b, off + j, none⟩ = some (.int .u8 ((bs[j]?.getD 0 : Nat) : Int))

theorem Tryd.infoBytes : (Tryd.prog.info? 27).map (fun i => (i.zero, i.size, i.bytes)) = some (some (.slice none 0 0), 1, 24) := by kernel_rfl
theorem Tryd.infoByte : (Tryd.prog.info? 5).map (fun i => (i.zero, i.size, i.bytes)) = some (some (.int .u8 0), 1, 1) := by kernel_rfl

/- The pieces of a block's bytes, as slices. -/
def pieceV (b off s c : Nat) (i : Nat) : Value := .slice (some ⟨b, off + i * s, none⟩) s (c - i * s)
def ownV (b off s c K : Nat) : List Value := (List.range K).map (pieceV b off s c)
theorem ownV_at {b off s c K k : Nat} (h : k < K) : (ownV b off s c K)[k]? = some (pieceV b off s c k) := by simp [ownV, h]
theorem ownV_length (b off s c K : Nat) : (ownV b off s c K).length = K := by simp [ownV]

end Go.Proofs.YtmfpiodlecapiaaDoor
