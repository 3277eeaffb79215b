/- The chapter's examples. -/
import Derived.Test.YtalpbnfebcafgaaGreatLa
namespace Go.Proofs.YtalpbnfebcafgaaGreat
set_option maxRecDepth 20000
open Go.RowKit

end Go.Proofs.YtalpbnfebcafgaaGreat
