/- the law RegisterNumbers -/
import Derived.Test.YtlebanghcbkejaaRgU
namespace Go.Proofs.Ytlebanghcbkejaa
open Go.RowKit
theorem registerNumbers_law (w : World) : Calls Try.prog 3 #[] w fun e w' => e = .returned (.bool true) ∧ Below w.heap.size w w' := numbers_any w
end Go.Proofs.Ytlebanghcbkejaa
