/- walks: Same[int], known -/
import Derived.Test.YtlebanghcbkejaaS2
import Derived.RegionTactic
import Derived.Deep.QuietTactic
import Derived.BigQuiet
import Derived.ChangeAlike
namespace Go.Proofs.Ytlebanghcbkejaa
open Go.RowKit
theorem bump {a b c : World} (h : Below a.heap.size a b) (k : Below b.heap.size b c) : Below a.heap.size a c := h.trans (k.mono h.size)
set_option maxHeartbeats 2000000 in
set_option maxRecDepth 100000 in
theorem same_ints (A B n ca cb : Nat) (f : Nat → Int) (w : World) (hn : n ≤ 4096) (hA : A < w.heap.size) (hB : B < w.heap.size)
    (ha : ∀ i, i < n → w.cell? ⟨A, i, none⟩ = some (.int .i64 (f i))) (hb : ∀ i, i < n → w.cell? ⟨B, i, none⟩ = some (.int .i64 (f i))) :
    Calls Try.prog 35 #[.slice (some ⟨A, 0, none⟩) n ca, .slice (some ⟨B, 0, none⟩) n cb] w fun e w' => e = .returned (.bool true) ∧ Below w.heap.size w w' := by
  have HA := Lib.hid ha
  have HB := Lib.hid hb
  clear ha hb
  go_enter Try.func35, Try.ntmps35
  go_wp2
  go_loopw [5] (fun i wr => ∃ k : Nat, k ≤ n ∧ i = .int .i64 k ∧ Below w.heap.size w wr) (fun i _ => n - (intOf i).toNat)
  case atStart => exact ⟨0, Nat.zero_le _, rfl, Below.refl _ _⟩
  case round =>
    obtain ⟨k, hk, rfl, hbl⟩ := hrel
    by_cases hlt : k < n
    · have q0 : (0 : Int) ≤ (k : Int) := by omega
      have q1 : (k : Int) < (n : Int) := by omega
      have d0 : wr.cell? ⟨A, k, none⟩ = some (.int .i64 (f k)) := (hbl.cell (p := ⟨A, _, none⟩) hA).trans (HA.out k hlt)
      have d1 : wr.cell? ⟨B, k, none⟩ = some (.int .i64 (f k)) := (hbl.cell (p := ⟨B, _, none⟩) hB).trans (HB.out k hlt)
      go_wp2
      go_region
      all_goals go_wp2
      all_goals go_roundw
      all_goals first
        | (case rel => exact ⟨k + 1, by omega, by go_num, hbl.drew⟩)
        | (case measure => simp [intOf]; omega)
    · obtain rfl : k = n := by omega
      go_wp2
      go_ret
      exact ⟨rfl, hbl⟩
theorem f52 : firstV 5 2 = 1 := by decide
theorem i16 : inS 16 = false := by decide
theorem im1 : inS (-1) = false := by decide
theorem i15 : inS 15 = true := by decide
def f3 : Nat → Int := fun i => firstV i 3
set_option maxHeartbeats 2000000 in
set_option maxRecDepth 100000 in
theorem known13_any (w : World) :
    Calls Try.prog 24 #[] w fun e w' => e = .returned (.bool true) ∧ Below w.heap.size w w' := by
  obtain ⟨B, hB⟩ : ∃ B, B = w.heap.size := ⟨_, rfl⟩
  rw [← hB]
  have hH := fun w0 (h0 : B = w0.heap.size) => (home_any 3 w0).mono (fun e w' h => (show e = .returned (.slice (some ⟨B, 0, none⟩) 16 16) ∧ Hid (w'.ownsRow B 3 1 (.slice (some ⟨B, 0, none⟩) 16 16) 16 (homeC 3 16)) ∧ Below B w0 w' from by rw [h0]; exact ⟨h.1, Lib.hid h.2.1, h.2.2⟩))
  have HH := Lib.hid hH
  have HB := Lib.hid hB
  clear hH hB
  go_enter Try.func24, Try.ntmps24
  go_wp2_with fail
  refine (HH.out _ HB.out).mono ?_
  rintro e w1 ⟨rfl, hown, b1⟩
  go_wp2_with fail
  refine (first_any _ _ _).mono ?_
  rw [f52]
  rintro e w2 ⟨rfl, rfl⟩
  go_wp2_with fail
  refine (right_any _ _).mono ?_
  rw [i16]
  rintro e w2 ⟨rfl, rfl⟩
  go_wp2_with fail
  refine (right_any _ _).mono ?_
  rw [im1]
  rintro e w2 ⟨rfl, rfl⟩
  go_wp2_with fail
  refine (right_any _ _).mono ?_
  rw [i15]
  rintro e w2 ⟨rfl, rfl⟩
  go_wp2_with fail
  have hlt := (hown.out.lt B rfl).2
  refine (same_ints B w1.heap.size 4 16 4 f3 _ (by omega) ?_ ?_ ?_ ?_).mono ?_
  · simp; omega
  · simp
  · intro i hi
    rw [(hown.out.alloc _).cellAt i (by omega), homeC_at _ _ _ (by omega), if_pos (by omega)]
    rfl
  · intro i hi
    match i, hi with
    | 0, _ => simp; decide
    | 1, _ => simp; decide
    | 2, _ => simp; decide
    | 3, _ => simp; decide
  rintro e w3 ⟨rfl, b3⟩
  go_wp2_with fail
  go_ret
  refine ⟨rfl, ?_⟩
  have h2 : Below B w (w1.alloc (.cells #[.int .i64 0, .int .i64 1, .int .i64 2, .int .i64 0] 3)) := b1.alloc (by omega) _
  exact h2.trans (b3.mono (by simp; omega))
end Go.Proofs.Ytlebanghcbkejaa
