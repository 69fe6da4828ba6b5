/- walks: shard.Right, First, Within -/
import Derived.Test.YtlebanghcbkejaaRows
import Derived.WalkKit
import Derived.WalkSpells
import Derived.WalkLawsBesides
import Derived.Lib.Hide
import Derived.ProofKit
namespace Go.Proofs.Ytlebanghcbkejaa
open Go.RowKit
def inS (k : Int) : Bool := decide (0 ≤ k ∧ k < 16)
theorem inS_neg {k : Int} (h : k < 0) : inS k = false := by unfold inS; simp; omega
theorem inS_pos {k : Int} (h : 0 ≤ k) : inS k = decide (k < 16) := by unfold inS; simp [h]
theorem ret_eq {a b : Value} (h : a = b) : Ending.returned a = Ending.returned b := by rw [h]
set_option maxHeartbeats 2000000 in
set_option maxRecDepth 100000 in
theorem right_any (k : Int) (w : World) :
    Calls Try.prog 22 #[.int .i64 k] w fun e w' => e = .returned (.bool (inS k)) ∧ w = w' := by
  go_enter Try.func22, Try.ntmps22
  go_wp2
  all_goals go_ret
  · exact ⟨ret_eq (congrArg Value.bool (inS_pos (by assumption)).symm), rfl⟩
  · exact ⟨ret_eq (congrArg Value.bool (inS_neg (by assumption)).symm), rfl⟩
def clampM (m : Int) : Int := if m < 1 then 1 else if m > 8 then 8 else m
def firstV (k m : Int) : Int := if inS k then k.tmod (clampM m) else 0
theorem first_no {k m : Int} (h : (!inS k) = true) : firstV k m = 0 := by
  unfold firstV; simp at h; simp [h]
theorem first_is {k m n : Int} (h : (!inS k) = false) (hn : clampM m = n) : firstV k m = k.tmod n := by
  unfold firstV; simp at h; simp [h, hn]
set_option maxHeartbeats 2000000 in
set_option maxRecDepth 100000 in
theorem first_any (k m : Int) (w : World) :
    Calls Try.prog 23 #[.int .i64 k, .int .i64 m] w fun e w' => e = .returned (.int .i64 (firstV k m)) ∧ w = w' := by
  go_enter Try.func23, Try.ntmps23
  go_wp2_with (go_at_call 22; refine (right_any k _).mono ?_; rintro e w1 ⟨rfl, rfl⟩)
  all_goals go_ret
  · exact ⟨ret_eq (congrArg (Value.int .i64) (first_no (by assumption)).symm), rfl⟩
  all_goals refine ⟨ret_eq (congrArg (Value.int .i64) ?_), rfl⟩
  all_goals symm
  all_goals first
    | (refine first_is (by assumption) ?_; unfold clampM; split <;> (try split) <;> omega)
    | (refine (first_is (n := 1) (by assumption) ?_).trans (Int.tmod_one _); unfold clampM; split <;> (try split) <;> omega)
    | (trace_state; fail)
def within (k a b : Int) : Int := if a ≤ k ∧ k ≤ b then k else a + (if k.tmod (b - a + 1) < 0 then k.tmod (b - a + 1) + (b - a + 1) else k.tmod (b - a + 1))
theorem within_in (k a b : Int) (hab : a ≤ b) : a ≤ within k a b ∧ within k a b ≤ b := by
  unfold within
  have h1 := Int.tmod_lt_of_pos k (show 0 < b - a + 1 by omega)
  have h2 : -(b - a + 1) < k.tmod (b - a + 1) := by
    have := Int.lt_tmod_of_pos k (show 0 < b - a + 1 by omega)
    exact this
  split
  · assumption
  · split <;> omega
set_option maxHeartbeats 2000000 in
set_option maxRecDepth 100000 in
theorem within015_any (k : Int) (w : World) :
    Calls Try.prog 26 #[.int .i64 k, .int .i64 0, .int .i64 15] w fun e w' => ∃ n : Int, e = .returned (.int .i64 n) ∧ 0 ≤ n ∧ n ≤ 15 ∧ w = w' := by
  have h1 : k.tmod 16 < 16 := Int.tmod_lt_of_pos k (by omega)
  have h2 : -16 < k.tmod 16 := Int.lt_tmod_of_pos k (by omega)
  go_enter Try.func26, Try.ntmps26
  go_wp2
  all_goals go_ret
  all_goals first
    | (refine ⟨_, rfl, ?_, ?_, rfl⟩ <;> omega)
    | (trace_state; fail)
set_option maxHeartbeats 2000000 in
set_option maxRecDepth 100000 in
theorem within18_any (k : Int) (w : World) :
    Calls Try.prog 26 #[.int .i64 k, .int .i64 1, .int .i64 8] w fun e w' => ∃ n : Int, e = .returned (.int .i64 n) ∧ 1 ≤ n ∧ n ≤ 8 ∧ w = w' := by
  have h1 : k.tmod 8 < 8 := Int.tmod_lt_of_pos k (by omega)
  have h2 : -8 < k.tmod 8 := Int.lt_tmod_of_pos k (by omega)
  go_enter Try.func26, Try.ntmps26
  go_wp2
  all_goals go_ret
  all_goals first
    | (refine ⟨_, rfl, ?_, ?_, rfl⟩ <;> omega)
    | (trace_state; fail)
end Go.Proofs.Ytlebanghcbkejaa
