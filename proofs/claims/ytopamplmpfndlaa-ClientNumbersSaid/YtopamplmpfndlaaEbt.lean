/- MKnC -/
import Derived.Test.YtopamplmpfndlaaEbk
set_option maxRecDepth 100000
set_option maxHeartbeats 16000000
namespace Go.Proofs.Ytopamplmpfndlaa.Sm
open Go.RowKit
theorem k3a : nrm (signs ⟨#[49, 50, 51, 52]⟩) = some [49, 50, 51, 52] := by decide +kernel
theorem k3c : nrm (signs ⟨#[49, 50]⟩) = none := by decide +kernel
end Go.Proofs.Ytopamplmpfndlaa.Sm
