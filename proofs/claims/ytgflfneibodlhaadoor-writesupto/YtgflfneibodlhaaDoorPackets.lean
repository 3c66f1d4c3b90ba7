/- What Packets answers: the document's packets, each in memory of its own; or a refusal. -/
import Derived.Test.YtgflfneibodlhaaDoorPacketsWalk
namespace Go.Proofs.YtgflfneibodlhaaDoor
open Go.RowKit Go.Deep
attribute [local go_sem ↓] Go.wp_at_zero Go.wp_at_succ

end Go.Proofs.YtgflfneibodlhaaDoor
