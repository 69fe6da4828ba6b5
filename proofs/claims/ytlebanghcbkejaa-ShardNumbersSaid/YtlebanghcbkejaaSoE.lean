/- walks: the law ShardNumbers, as its row asks -/
import Derived.Test.YtlebanghcbkejaaSoD
namespace Go.Proofs.Ytlebanghcbkejaa
open Go.RowKit
theorem shardNumbers_law (w : World) : Calls Try.prog 7 #[] w fun e w' => e = .returned (.bool true) ∧ Below w.heap.size w w' := shardNumbers_walk w
end Go.Proofs.Ytlebanghcbkejaa
