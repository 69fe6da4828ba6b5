/- the law RosterMajorities -/
import Derived.Test.YtgoiidpcdifojaaRoM
namespace Go.Proofs.Ytgoiidpcdifojaa
open Go.RowKit
theorem rosterMajorities_law (a b c d : Int) (w : World) (_ : (Lit.int .i64 a).wf = true) (_ : (Lit.int .i64 b).wf = true) (_ : (Lit.int .i64 c).wf = true) (_ : (Lit.int .i64 d).wf = true) : Calls Try.prog 8 #[.int .i64 a, .int .i64 b, .int .i64 c, .int .i64 d] w fun e w' => e = .returned (.bool true) ∧ Below w.heap.size w w' := maj_law a b c d w
end Go.Proofs.Ytgoiidpcdifojaa
