/- walks: the law ShardMembers -/
import Derived.Test.YtlebanghcbkejaaS3
namespace Go.Proofs.Ytlebanghcbkejaa
open Go.RowKit
theorem first_at {k m : Int} (h0 : 0 ≤ k) (h1 : k < 16) (n : Int) (hn : clampM m = n) : firstV k m = k % n := by
  unfold firstV inS; simp [h0, h1, hn]; exact Int.tmod_eq_emod_of_nonneg h0
theorem first_out {k m : Int} (h : k < 0 ∨ 16 ≤ k) : firstV k m = 0 := by
  unfold firstV inS
  have : ¬ (0 ≤ k ∧ k < 16) := by omega
  simp [this]
set_option maxHeartbeats 2000000 in
set_option maxRecDepth 100000 in
theorem members_walk (s m : Int) (w : World) (_hs : (Lit.int .i64 s).wf = true) (_hm : (Lit.int .i64 m).wf = true) :
    Calls Try.prog 10 #[.int .i64 s, .int .i64 m] w fun e w' => e = .returned (.bool true) ∧ Below w.heap.size w w' := by
  clear _hs _hm
  go_enter Try.func10, Try.ntmps10
  go_wp2_with fail
  refine (within015_any s _).mono ?_
  rintro e w1 ⟨x, rfl, x0, x15, rfl⟩
  go_wp2_with fail
  refine (first_any _ _ _).mono ?_
  rw [first_at x0 (by omega) 1 (by decide), Int.emod_one]
  rintro e w1 ⟨rfl, rfl⟩
  go_wp2_with fail
  refine (first_any _ _ _).mono ?_
  rw [first_at x0 (by omega) 8 (by decide)]
  rintro e w1 ⟨rfl, rfl⟩
  go_wp2_with fail
  refine (first_any _ _ _).mono ?_
  rw [first_at x0 (by omega) 8 (by decide)]
  rintro e w1 ⟨rfl, rfl⟩
  go_wp2_with fail
  refine (first_any _ _ _).mono ?_
  rw [first_at x0 (by omega) 1 (by decide), Int.emod_one]
  rintro e w1 ⟨rfl, rfl⟩
  go_wp2_with fail
  refine (first_any _ _ _).mono ?_
  rw [first_out (by omega)]
  rintro e w1 ⟨rfl, rfl⟩
  go_wp2_with fail
  refine (first_any _ _ _).mono ?_
  rw [first_out (by omega)]
  rintro e w1 ⟨rfl, rfl⟩
  go_wp2_with fail
  refine (within18_any m _).mono ?_
  rintro e w1 ⟨n, rfl, n1, n8, rfl⟩
  go_wp2_with fail
  refine (first_any _ _ _).mono ?_
  rw [first_at x0 (by omega) n (by unfold clampM; rw [if_neg (by omega), if_neg (by omega)])]
  obtain ⟨f, hf⟩ : ∃ f, f = x % n := ⟨_, rfl⟩
  have f0 : 0 ≤ f := by rw [hf]; exact Int.emod_nonneg _ (by omega)
  have f1 : f < n := by rw [hf]; exact Int.emod_lt_of_pos _ (by omega)
  have fd : (x - x % n).tmod n = 0 := Int.tmod_eq_zero_of_dvd Int.dvd_self_sub_emod
  rw [← hf]
  rintro e w1 ⟨rfl, rfl⟩
  go_wp2_with fail
  refine (known13_any _).mono ?_
  rintro e w1 ⟨rfl, b1⟩
  go_wp2_with fail
  go_ret
  exact ⟨rfl, b1⟩
end Go.Proofs.Ytlebanghcbkejaa
