/- The walk of Ring: whatever numbers are picked, the field's laws hold of the program's products and inverses. -/
import Derived.Test.YtmfpiodlecapiaaDoorSure
namespace Go.Proofs.YtmfpiodlecapiaaDoor
open Go.RowKit

/- Which of n things a raw number speaks of. -/
def pickN (c : Int) (n : Nat) : Nat := if c < 0 then ((-(c + 1)) % n).toNat else (c % n).toNat
theorem pickN_lt (c : Int) {n : Nat} (hn : 0 < n) : pickN c n < n := by
  unfold pickN
  have h1 := Int.emod_lt_of_pos (-(c + 1)) (show (0 : Int) < n by omega)
  have h2 := Int.emod_nonneg (-(c + 1)) (show (n : Int) ≠ 0 by omega)
  have h3 := Int.emod_lt_of_pos c (show (0 : Int) < n by omega)
  have h4 := Int.emod_nonneg c (show (n : Int) ≠ 0 by omega)
  split <;> omega

end Go.Proofs.YtmfpiodlecapiaaDoor
