/- MPnC -/
import Derived.Test.YtopamplmpfndlaaEbf
import Derived.Test.YtopamplmpfndlaaRows
import Derived.WalkKit
import Derived.WalkSpells
import Derived.WalkLawsBesides
import Derived.Deep.QuietTactic
import Derived.BigQuiet
set_option maxRecDepth 100000
set_option maxHeartbeats 16000000
namespace Go.Proofs.Ytopamplmpfndlaa.Sm
open Go.RowKit
theorem refDigit_any (r : Int) (w : World) (h0 : 0 ≤ r) (h1 : r ≤ 1114111) :
  Calls Try.prog 112 #[.int .i32 r] w fun e w' => e = .returned (.int .i64 (dg r)) ∧ w = w' := by
 have key : (48 ≤ r ∧ r ≤ 57) ∨ (65296 ≤ r ∧ r ≤ 65305) ∨ (1632 ≤ r ∧ r ≤ 1641) ∨ (1776 ≤ r ∧ r ≤ 1785) ∨ r = 32 ∨ r = 45 ∨ r = 160 ∨ (dg r = -1 ∧ ¬ (48 ≤ r ∧ r ≤ 57) ∧ ¬ (65296 ≤ r ∧ r ≤ 65305) ∧ ¬ (1632 ≤ r ∧ r ≤ 1641) ∧ ¬ (1776 ≤ r ∧ r ≤ 1785) ∧ r ≠ 32 ∧ r ≠ 45 ∧ r ≠ 160) := by
  unfold dg; omega
 rcases key with h | h | h | h | h | h | h | h
 ·have e : dg r = r - 48 := by unfold dg; omega
  rw [e]; clear e
  obtain ⟨a, b⟩ := h
  go_enter Try.func112, Try.ntmps112
  go_wp2
  go_ret
  exact ⟨rfl, rfl⟩
 ·have e : dg r = r - 65296 := by unfold dg; omega
  rw [e]; clear e
  obtain ⟨a, b⟩ := h
  go_enter Try.func112, Try.ntmps112
  go_wp2
  go_ret
  exact ⟨rfl, rfl⟩
 ·have e : dg r = r - 1632 := by unfold dg; omega
  rw [e]; clear e
  obtain ⟨a, b⟩ := h
  go_enter Try.func112, Try.ntmps112
  go_wp2
  go_ret
  exact ⟨rfl, rfl⟩
 ·have e : dg r = r - 1776 := by unfold dg; omega
  rw [e]; clear e
  obtain ⟨a, b⟩ := h
  go_enter Try.func112, Try.ntmps112
  go_wp2
  go_ret
  exact ⟨rfl, rfl⟩
 iterate 3
  focus
   subst h
   go_enter Try.func112, Try.ntmps112
   go_wp2
   go_ret
   exact ⟨rfl, rfl⟩
 ·obtain ⟨e, q1, q2, q3, q4, q5, q6, q7⟩ := h
  rw [e]; clear e
  have g1 : (r == 32) = false := by simpa using q5
  have g2 : (r == 45) = false := by simpa using q6
  have g3 : (r == 160) = false := by simpa using q7
  clear q5 q6 q7
  go_enter Try.func112, Try.ntmps112
  go_wp2
  all_goals first
   | (go_ret; exact ⟨rfl, rfl⟩)
   | (exfalso; omega)
theorem digit_any (r : Int) (w : World) (h0 : 0 ≤ r) (h1 : r ≤ 1114111) (hp : dg r ≠ -2) :
  Calls Try.prog 152 #[.int .i32 r] w fun e w' => e = .returned (.tuple #[.int .u8 (if dg r = -1 then 0 else dg r), .bool (decide (dg r ≠ -1))]) ∧ w = w' := by
 have key : (48 ≤ r ∧ r ≤ 57) ∨ (65296 ≤ r ∧ r ≤ 65305) ∨ (1632 ≤ r ∧ r ≤ 1641) ∨ (1776 ≤ r ∧ r ≤ 1785) ∨ (dg r = -1 ∧ ¬ (48 ≤ r ∧ r ≤ 57) ∧ ¬ (65296 ≤ r ∧ r ≤ 65305) ∧ ¬ (1632 ≤ r ∧ r ≤ 1641) ∧ ¬ (1776 ≤ r ∧ r ≤ 1785)) := by
  have := dg_cases r; omega
 have i0 : ∀ w, (Instr.index 219 (.agg #[.int .i32 48, .int .i32 65296, .int .i32 1632, .int .i32 1776]) (.int .i64 0)).run Try.prog w = .ok (.int .i32 48) w := fun _ => by kernel_rfl
 have i1 : ∀ w, (Instr.index 219 (.agg #[.int .i32 48, .int .i32 65296, .int .i32 1632, .int .i32 1776]) (.int .i64 1)).run Try.prog w = .ok (.int .i32 65296) w := fun _ => by kernel_rfl
 have i2 : ∀ w, (Instr.index 219 (.agg #[.int .i32 48, .int .i32 65296, .int .i32 1632, .int .i32 1776]) (.int .i64 2)).run Try.prog w = .ok (.int .i32 1632) w := fun _ => by kernel_rfl
 have i3 : ∀ w, (Instr.index 219 (.agg #[.int .i32 48, .int .i32 65296, .int .i32 1632, .int .i32 1776]) (.int .i64 3)).run Try.prog w = .ok (.int .i32 1776) w := fun _ => by kernel_rfl
 have W : ∀ j : Nat, j ≤ 4 → (j = 0 → 48 ≤ r ∧ r ≤ 57) → (j = 1 → 65296 ≤ r ∧ r ≤ 65305) → (j = 2 → 1632 ≤ r ∧ r ≤ 1641) → (j = 3 → 1776 ≤ r ∧ r ≤ 1785) → (1 ≤ j → ¬ (48 ≤ r ∧ r ≤ 57)) → (2 ≤ j → ¬ (65296 ≤ r ∧ r ≤ 65305)) → (3 ≤ j → ¬ (1632 ≤ r ∧ r ≤ 1641)) → (4 ≤ j → ¬ (1776 ≤ r ∧ r ≤ 1785)) →
   Calls Try.prog 152 #[.int .i32 r] w fun e w' => e = .returned (.tuple #[.int .u8 (if j = 4 then 0 else r - (if j = 0 then 48 else if j = 1 then 65296 else if j = 2 then 1632 else 1776)), .bool (decide (j ≠ 4))]) ∧ w = w' := by
  intro j hj a0 a1 a2 a3 b0 b1 b2 b3
  clear key hp
  go_enter Try.func152, Try.ntmps152
  go_wp2
  go_loop [7] (fun s => ∃ k : Nat, k ≤ j ∧ s = .int .i64 k) (fun s => 5 - (intOf s).toNat)
  case atStart => exact ⟨0, Nat.zero_le _, rfl⟩
  case round =>
   obtain ⟨k, hk, rfl⟩ := hrel
   have hk5 : k = 0 ∨ k = 1 ∨ k = 2 ∨ k = 3 ∨ k = 4 := by omega
   rcases hk5 with rfl | rfl | rfl | rfl | rfl
   ·by_cases hjk : j = 0
    ·subst hjk
     obtain ⟨c1, c2⟩ := a0 rfl
     clear a0 a1 a2 a3 b0 b1 b2 b3
     go_wp2
     go_ret2
     exact ⟨rfl, rfl⟩
    ·have c := b0 (by omega)
     clear a0 a1 a2 a3 b0 b1 b2 b3
     go_wp2
     all_goals first
      | (go_round; (case rel => exact ⟨1, by omega, rfl⟩); (case measure => simp [intOf]))
      | (exfalso; omega)
   ·by_cases hjk : j = 1
    ·subst hjk
     obtain ⟨c1, c2⟩ := a1 rfl
     clear a0 a1 a2 a3 b0 b1 b2 b3
     go_wp2
     go_ret2
     exact ⟨rfl, rfl⟩
    ·have c := b1 (by omega)
     clear a0 a1 a2 a3 b0 b1 b2 b3
     go_wp2
     all_goals first
      | (go_round; (case rel => exact ⟨2, by omega, rfl⟩); (case measure => simp [intOf]))
      | (exfalso; omega)
   ·by_cases hjk : j = 2
    ·subst hjk
     obtain ⟨c1, c2⟩ := a2 rfl
     clear a0 a1 a2 a3 b0 b1 b2 b3
     go_wp2
     go_ret2
     exact ⟨rfl, rfl⟩
    ·have c := b2 (by omega)
     clear a0 a1 a2 a3 b0 b1 b2 b3
     go_wp2
     all_goals first
      | (go_round; (case rel => exact ⟨3, by omega, rfl⟩); (case measure => simp [intOf]))
      | (exfalso; omega)
   ·by_cases hjk : j = 3
    ·subst hjk
     obtain ⟨c1, c2⟩ := a3 rfl
     clear a0 a1 a2 a3 b0 b1 b2 b3
     go_wp2
     go_ret2
     exact ⟨rfl, rfl⟩
    ·have c := b3 (by omega)
     clear a0 a1 a2 a3 b0 b1 b2 b3
     go_wp2
     all_goals first
      | (go_round; (case rel => exact ⟨4, by omega, rfl⟩); (case measure => simp [intOf]))
      | (exfalso; omega)
   ·have hjk : j = 4 := by omega
    subst hjk
    clear a0 a1 a2 a3 b0 b1 b2 b3
    go_wp2
    go_ret2
    exact ⟨rfl, rfl⟩
 clear i0 i1 i2 i3
 have hd := dg_cases r
 rcases key with h | h | h | h | h
 ·have e : dg r = r - 48 := by omega
  have n : ¬ r - 48 = -1 := by omega
  have w0 := W 0 (by omega) (by omega) (by omega) (by omega) (by omega) (by omega) (by omega) (by omega) (by omega)
  rw [e]; simpa [n] using w0
 ·have e : dg r = r - 65296 := by omega
  have n : ¬ r - 65296 = -1 := by omega
  have w0 := W 1 (by omega) (by omega) (by omega) (by omega) (by omega) (by omega) (by omega) (by omega) (by omega)
  rw [e]; simpa [n] using w0
 ·have e : dg r = r - 1632 := by omega
  have n : ¬ r - 1632 = -1 := by omega
  have w0 := W 2 (by omega) (by omega) (by omega) (by omega) (by omega) (by omega) (by omega) (by omega) (by omega)
  rw [e]; simpa [n] using w0
 ·have e : dg r = r - 1776 := by omega
  have n : ¬ r - 1776 = -1 := by omega
  have w0 := W 3 (by omega) (by omega) (by omega) (by omega) (by omega) (by omega) (by omega) (by omega) (by omega)
  rw [e]; simpa [n] using w0
 have w0 := W 4 (by omega) (by omega) (by omega) (by omega) (by omega) (by omega) (by omega) (by omega) (by omega)
 rw [h.1]; simpa using w0
end Go.Proofs.Ytopamplmpfndlaa.Sm
