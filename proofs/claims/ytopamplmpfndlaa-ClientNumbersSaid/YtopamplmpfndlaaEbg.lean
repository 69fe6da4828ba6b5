/- MPnA -/
import Derived.Test.YtopamplmpfndlaaRows
import Derived.WalkKit
import Derived.WalkSpells
import Derived.WalkLawsBesides
set_option maxRecDepth 100000
set_option maxHeartbeats 16000000
namespace Go.Proofs.Ytopamplmpfndlaa.Sm
open Go.RowKit
theorem passedBy_any (r : Int) (w : World) (h0 : -2147483648 ≤ r) (h1 : r ≤ 2147483647) :
  Calls Try.prog 151 #[.int .i32 r] w fun e w' => e = .returned (.bool (r == 32 || r == 45 || r == 160)) ∧ w = w' := by
 by_cases a : r = 32
 ·subst a
  go_enter Try.func151, Try.ntmps151
  go_wp2
  go_ret
  exact ⟨rfl, rfl⟩
 have a1 : (r == 32) = false := by simpa using a
 have a2 : (r != 32) = true := by simpa using a
 by_cases b : r = 45
 ·subst b
  go_enter Try.func151, Try.ntmps151
  go_wp2
  go_ret
  exact ⟨rfl, rfl⟩
 have b1 : (r == 45) = false := by simpa using b
 go_enter Try.func151, Try.ntmps151
 go_wp2
 go_ret
 simp [a1, b1]
end Go.Proofs.Ytopamplmpfndlaa.Sm
