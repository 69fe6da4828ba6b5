/- MEnF -/
import Derived.Test.YtopamplmpfndlaaAax
import Derived.Test.YtopamplmpfndlaaAay
set_option maxRecDepth 100000
set_option maxHeartbeats 16000000
namespace Go.Proofs.Ytopamplmpfndlaa.Sm
open Go.RowKit
end Go.Proofs.Ytopamplmpfndlaa.Sm
