/- What Packets answers: the document's packets, each in memory of its own; or a refusal. -/
import Derived.Test.YtmfpiodlecapiaaDoorPacketsWalk
namespace Go.Proofs.YtmfpiodlecapiaaDoor
open Go.RowKit Go.Deep
attribute [local go_sem ↓] Go.wp_at_zero Go.wp_at_succ

end Go.Proofs.YtmfpiodlecapiaaDoor
