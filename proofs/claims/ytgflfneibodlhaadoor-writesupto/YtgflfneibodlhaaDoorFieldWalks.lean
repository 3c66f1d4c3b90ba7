/- What the calls of package field answer: the document's sums, products and inverses, for numbers of the field; and the reference's. -/
import Derived.Test.YtgflfneibodlhaaDoorRows
import Derived.Test.YtgflfneibodlhaaDoorBits
import Derived.WalkKit
import Derived.WalkSpells
import Derived.WalkLawsBesides
namespace Go.Proofs.YtgflfneibodlhaaDoor
open Go.RowKit

def leftIn (m n : Nat) : Nat := m - n
end Go.Proofs.YtgflfneibodlhaaDoor
