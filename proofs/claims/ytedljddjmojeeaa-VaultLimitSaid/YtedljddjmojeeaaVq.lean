/- VaultLimit, of what comes in -/
import Derived.Test.YtedljddjmojeeaaVm
import Derived.Test.YtedljddjmojeeaaVo
namespace Go.Proofs.Ytedljddjmojeeaa
open Go.RowKit
theorem limit_law (v : Value) (w : World) (h : KpRow w v) : Calls Try.prog 3 #[v] w fun e w' => e = .returned (.bool true) ∧ Below w.heap.size w w' := by
  obtain ⟨ad, cap, l, rfl, hin, hl⟩ := h
  exact limit11_any ad cap l hl w hin
end Go.Proofs.Ytedljddjmojeeaa
