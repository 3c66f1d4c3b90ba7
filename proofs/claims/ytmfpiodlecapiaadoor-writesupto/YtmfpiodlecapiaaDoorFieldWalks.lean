/- What the calls of package field answer: the document's sums, products and inverses, for numbers of the field; and the reference's. -/
import Derived.Test.YtmfpiodlecapiaaDoorRows
import Derived.Test.YtmfpiodlecapiaaDoorBits
import Derived.WalkKit
import Derived.WalkSpells
import Derived.WalkLawsBesides
namespace Go.Proofs.YtmfpiodlecapiaaDoor
open Go.RowKit

def leftIn (m n : Nat) : Nat := m - n
end Go.Proofs.YtmfpiodlecapiaaDoor
