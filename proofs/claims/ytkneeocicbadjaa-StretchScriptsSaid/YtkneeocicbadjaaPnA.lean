/- walks for calibration -/
import Derived.Test.YtkneeocicbadjaaRows
import Derived.WalkKit
import Derived.WalkSpells
import Derived.WalkLawsBesides
namespace Go.Proofs.Ytkneeocicbadjaa
open Go.RowKit
set_option maxHeartbeats 400000 in
theorem passedBy_any (r : Int) (w : World) (h0 : -2147483648 ≤ r) (h1 : r ≤ 2147483647) :
    Calls Try.prog 80 #[.int .i32 r] w fun e w' => e = .returned (.bool (r == 32 || r == 45 || r == 160)) ∧ w = w' := by
  by_cases a : r = 32
  · subst a
    go_enter Try.func80, Try.ntmps80
    go_wp2
    go_ret
    exact ⟨rfl, rfl⟩
  · have a1 : (r == 32) = false := by simpa using a
    have a2 : (r != 32) = true := by simpa using a
    by_cases b : r = 45
    · subst b
      go_enter Try.func80, Try.ntmps80
      go_wp2
      go_ret
      exact ⟨rfl, rfl⟩
    · have b1 : (r == 45) = false := by simpa using b
      go_enter Try.func80, Try.ntmps80
      go_wp2
      go_ret
      simp [a1, b1]
end Go.Proofs.Ytkneeocicbadjaa
