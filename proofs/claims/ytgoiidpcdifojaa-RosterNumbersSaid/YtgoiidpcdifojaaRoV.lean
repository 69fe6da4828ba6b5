/- the law RosterNumbers -/
import Derived.Test.YtgoiidpcdifojaaRoU
namespace Go.Proofs.Ytgoiidpcdifojaa
open Go.RowKit
theorem rosterNumbers_law (w : World) : Calls Try.prog 6 #[] w fun e w' => e = .returned (.bool true) ∧ Below w.heap.size w w' := numbers_law w
end Go.Proofs.Ytgoiidpcdifojaa
