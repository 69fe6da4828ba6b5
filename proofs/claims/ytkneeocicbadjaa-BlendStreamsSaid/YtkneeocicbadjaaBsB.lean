/- walks: the law BlendStreams, its arguments opened -/
import Derived.Test.YtkneeocicbadjaaBsA
import Derived.Test.YtkneeocicbadjaaOpA
namespace Go.Proofs.Ytkneeocicbadjaa
open Go.RowKit
theorem blendStreams_law (v0 : Value) (n c1 c2 : Int) (w : World) (h0 : ∃ l : List UInt8, l.length = 16 ∧ v0 = digV l) (h1 : (Lit.int .u64 n).wf = true) (h2 : (Lit.int .i64 c1).wf = true) (h3 : (Lit.int .i64 c2).wf = true) :
    Calls Try.prog 5 #[v0, .int .u64 n, .int .i64 c1, .int .i64 c2] w fun e w' => e = .returned (.bool true) ∧ Below w.heap.size w w' := by
  obtain ⟨A, hA, rfl⟩ := h0
  have r1 : 0 ≤ n ∧ n < 18446744073709551616 := by simp [Lit.wf, IntKind.min, IntKind.max, IntKind.signed, IntKind.bits] at h1; omega
  have r2 : -9223372036854775808 ≤ c1 ∧ c1 ≤ 9223372036854775807 := by simp [Lit.wf, IntKind.min, IntKind.max, IntKind.signed, IntKind.bits] at h2; omega
  have r3 : -9223372036854775808 ≤ c2 ∧ c2 ≤ 9223372036854775807 := by simp [Lit.wf, IntKind.min, IntKind.max, IntKind.signed, IntKind.bits] at h3; omega
  exact bstreams_any A hA n c1 c2 r1.1 r1.2 r2 r3 w
end Go.Proofs.Ytkneeocicbadjaa
