/- walks: the law ShardTells, its argument opened -/
import Derived.Test.YtlebanghcbkejaaSoB
import Derived.Test.YtlebanghcbkejaaOpA
namespace Go.Proofs.Ytlebanghcbkejaa
open Go.RowKit
theorem shardTells_law (v : Value) (s m : Int) (w : World) (h : ∃ l : List UInt8, l.length = 4 ∧ v = digV l) (_h1 : (Lit.int .i64 s).wf = true) (_h2 : (Lit.int .i64 m).wf = true) :
    Calls Try.prog 8 #[v, .int .i64 s, .int .i64 m] w fun e w' => e = .returned (.bool true) ∧ Below w.heap.size w w' := by
  obtain ⟨l, hl, rfl⟩ := h
  exact shardTells_walk l hl s m w
end Go.Proofs.Ytlebanghcbkejaa
