/- what comes in to EndorseMajority -/
import Derived.Test.YtgoiidpcdifojaaEl
import Derived.Test.YtgoiidpcdifojaaOpA
namespace Go.Proofs.Ytgoiidpcdifojaa
open Go.RowKit
theorem endorseMajority_law (v0 : Value) (a b k : Int) (w : World) (h0 : ∃ l : List UInt8, l.length = 16 ∧ v0 = Sm.digV l) (_ : (Lit.int .i64 a).wf = true) (_ : (Lit.int .i64 b).wf = true) (_ : (Lit.int .i64 k).wf = true) :
    Calls Try.prog 12 #[v0, .int .i64 a, .int .i64 b, .int .i64 k] w fun e w' => e = .returned (.bool true) ∧ Below w.heap.size w w' := by
  obtain ⟨C, hC, rfl⟩ := h0
  exact majority_law C hC a b k w
end Go.Proofs.Ytgoiidpcdifojaa
