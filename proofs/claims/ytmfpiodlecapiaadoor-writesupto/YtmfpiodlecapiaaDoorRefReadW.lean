/- The document's own reading of a packet: of any bytes. -/
import Derived.Test.YtmfpiodlecapiaaDoorRefRead
namespace Go.Proofs.YtmfpiodlecapiaaDoor
open Go.RowKit Go.Deep

def saidOf (S : ByteArray) : Value := saidV (256 * (bytesOf S)[1]?.getD 0 + (bytesOf S)[2]?.getD 0) (256 * (bytesOf S)[3]?.getD 0 + (bytesOf S)[4]?.getD 0) ((bytesOf S)[5]?.getD 0) ((bytesOf S)[6]?.getD 0) ((bytesOf S)[7]?.getD 0) ((bytesOf S)[8]?.getD 0) ((bytesOf S)[9]?.getD 0) (S.extract 10 S.size)
theorem refRead_walk (S : ByteArray) (hn : S.size ≤ 100000000) (w : World) :
    Calls Tryd.prog 7 #[.string S] w fun r w' => ((Tx.IsPacket (bytesOf S) ∧ r = .returned (.tuple #[saidOf S, .bool true])) ∨ (¬ Tx.IsPacket (bytesOf S) ∧ r = .returned (.tuple #[noSaid, .bool false]))) ∧ Below w.heap.size w w' := by
  by_cases h10 : S.size < 10
  · refine (refRead_short S _ rfl h10 w).mono ?_
    rintro _ w' ⟨rfl, hb⟩
    exact ⟨Or.inr ⟨fun hh => by have := hh.1; rw [bytesOf_length] at this; omega, rfl⟩, hb⟩
  · by_cases h0 : (bytesOf S)[0]?.getD 0 = 70
    · exact refRead_main S S.size _ _ _ _ _ _ _ _ _ _ rfl (by omega) h0 rfl rfl rfl rfl rfl rfl rfl rfl rfl (hide rfl) w hn
    · refine (refRead_mark S _ _ rfl (by omega) rfl h0 w).mono ?_
      rintro _ w' ⟨rfl, hb⟩
      exact ⟨Or.inr ⟨fun hh => h0 hh.2.1, rfl⟩, hb⟩
end Go.Proofs.YtmfpiodlecapiaaDoor
