/- The chapter's examples. -/
import Derived.Test.YtenfcbmeokenaaaGreatLa
namespace Go.Proofs.YtenfcbmeokenaaaGreat
set_option maxRecDepth 20000
open Go.RowKit

end Go.Proofs.YtenfcbmeokenaaaGreat
