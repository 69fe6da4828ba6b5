/- walks: same, known, text -/
import Derived.Test.YtiomokjidipjkaaA5
import Derived.Test.YtiomokjidipjkaaA6
import Derived.Test.YtiomokjidipjkaaA9
namespace Go.Proofs.Ytiomokjidipjkaa
open Go.RowKit
theorem bump {a b c : World} (h : Below a.heap.size a b) (k : Below b.heap.size b c) : Below a.heap.size a c := h.trans (k.mono h.size)
set_option maxHeartbeats 2000000 in
set_option maxRecDepth 100000 in
theorem same_any (s : ByteArray) (hs : s.size ≤ 35184372088832) (w : World) :
    Calls Try.prog 8 #[.string s] w fun e w' => e = .returned (.bool true) ∧ Below w.heap.size w w' := by
  have hs1 : s.size ≤ maxLen := by unfold maxLen; omega
  obtain ⟨t, ok, ht⟩ : ∃ t ok, nrmV (signs s) = .tuple #[.string t, .bool ok] := by
    unfold nrmV
    split
    · exact ⟨_, _, rfl⟩
    · exact ⟨_, _, rfl⟩
  have HT := Lib.hid ht
  clear ht
  have r1 := fun w => (normal_any s w).mono (fun e w' (h : e = .returned (nrmV (signs s)) ∧ Below w.heap.size w w') => (show e = .returned (.tuple #[.string t, .bool ok]) ∧ Below w.heap.size w w' from ⟨by rw [h.1, HT.out], h.2⟩))
  have r2 := fun w => (refNormal_any s (by omega) w).mono (fun e w' (h : e = .returned (nrmV (signs s)) ∧ Below w.heap.size w w') => (show e = .returned (.tuple #[.string t, .bool ok]) ∧ Below w.heap.size w w' from ⟨by rw [h.1, HT.out], h.2⟩))
  have R1 := Lib.hid r1
  have R2 := Lib.hid r2
  clear r1 r2
  obtain ⟨wk, hwk⟩ : ∃ b, b = weakB s := ⟨_, rfl⟩
  obtain ⟨n, hn⟩ : ∃ n, n = (signs s).length := ⟨_, rfl⟩
  have HW := Lib.hid hwk
  have HN := Lib.hid hn
  clear hwk hn
  go_enter Try.func8, Try.ntmps8
  go_wp2_with (first
    | (go_at_call 11; refine (R1.out _).mono ?_; rintro e w1 ⟨rfl, b1⟩)
    | (go_at_call 15; refine (R2.out _).mono ?_; rintro e w2 ⟨rfl, b2⟩)
    | (go_at_call 14; refine (weak_any s hs1 _).mono ?_; rintro e w3 ⟨rfl, b3⟩; rw [← HW.out])
    | (go_at_call 16; refine (refWeak_any s hs1 _).mono ?_; rintro e w4 ⟨rfl, b4⟩; rw [← HW.out])
    | (go_at_call 12; refine (masked_any s hs _).mono ?_; rintro e w5 ⟨rfl, b5⟩)
    | (go_at_call 17; refine (refMasked_any s hs _).mono ?_; rintro e w6 ⟨rfl, b6⟩)
    | (go_at_call 13; refine (count_any s hs1 _).mono ?_; rintro e w7 ⟨rfl, b7⟩; rw [← HN.out])
    | (go_at_call 18; refine (refSigns_any s hs _).mono ?_; rintro e w8 ⟨v, rfl, hown, b8⟩; obtain ⟨va, vc, rfl, _, _⟩ := own_len hown; rw [← HN.out]; clear hown))
  go_ret
  exact ⟨rfl, bump (bump (bump (bump (bump (bump (bump b1 b2) b3) b4) b5) b6) b7) b8⟩

theorem nrmV_some {l : List Nat} {a : List UInt8} (h : nrm l = some a) : nrmV l = .tuple #[.string ⟨a.toArray⟩, .bool true] := by unfold nrmV; rw [h]
theorem nrmV_none {l : List Nat} (h : nrm l = none) : nrmV l = .tuple #[.string ⟨#[]⟩, .bool false] := by unfold nrmV; rw [h]
theorem k1 : nrmV (signs ⟨#[49, 50, 45, 51, 52, 32]⟩) = .tuple #[.string ⟨#[49, 50, 51, 52]⟩, .bool true] := nrmV_some (a := [49, 50, 51, 52]) (by decide +kernel)
theorem k2 : nrmV (signs ⟨#[239, 188, 145, 217, 162, 219, 179, 194, 160, 52]⟩) = .tuple #[.string ⟨#[49, 50, 51, 52]⟩, .bool true] := nrmV_some (a := [49, 50, 51, 52]) (by decide +kernel)
theorem k3 : nrmV (signs ⟨#[49, 50, 51]⟩) = .tuple #[.string ⟨#[]⟩, .bool false] := nrmV_none (by decide +kernel)
theorem k4 : weakB ⟨#[52, 51, 50, 49]⟩ = true := by decide +kernel
theorem k5 : weakB ⟨#[52, 51, 50, 50]⟩ = false := by decide +kernel
theorem k6 : maskB ⟨#[97, 98, 99]⟩ = ⟨#[226, 128, 162, 98, 99]⟩ := by
  unfold maskB
  have : encL (maskL (signs ⟨#[97, 98, 99]⟩)) = [226, 128, 162, 98, 99] := by decide +kernel
  rw [this]
theorem k7 : (signs ⟨#[97, 255, 98]⟩).length = 3 := by decide +kernel
set_option maxHeartbeats 2000000 in
set_option maxRecDepth 100000 in
theorem known_any (w : World) : Calls Try.prog 9 #[] w fun e w' => e = .returned (.bool true) ∧ Below w.heap.size w w' := by
  have r1 := fun w => (normal_any ⟨#[49, 50, 45, 51, 52, 32]⟩ w).mono (fun e w' h => (show e = .returned (.tuple #[.string ⟨#[49, 50, 51, 52]⟩, .bool true]) ∧ Below w.heap.size w w' from ⟨by rw [h.1, k1], h.2⟩))
  have r2 := fun w => (normal_any ⟨#[239, 188, 145, 217, 162, 219, 179, 194, 160, 52]⟩ w).mono (fun e w' h => (show e = .returned (.tuple #[.string ⟨#[49, 50, 51, 52]⟩, .bool true]) ∧ Below w.heap.size w w' from ⟨by rw [h.1, k2], h.2⟩))
  have r3 := fun w => (normal_any ⟨#[49, 50, 51]⟩ w).mono (fun e w' h => (show e = .returned (.tuple #[.string ⟨#[]⟩, .bool false]) ∧ Below w.heap.size w w' from ⟨by rw [h.1, k3], h.2⟩))
  have r4 := fun w => (weak_any ⟨#[52, 51, 50, 49]⟩ (by decide) w).mono (fun e w' h => (show e = .returned (.bool true) ∧ Below w.heap.size w w' from ⟨by rw [h.1, k4], h.2⟩))
  have r5 := fun w => (weak_any ⟨#[52, 51, 50, 50]⟩ (by decide) w).mono (fun e w' h => (show e = .returned (.bool false) ∧ Below w.heap.size w w' from ⟨by rw [h.1, k5], h.2⟩))
  have r6 := fun w => (masked_any ⟨#[97, 98, 99]⟩ (by decide) w).mono (fun e w' h => (show e = .returned (.string ⟨#[226, 128, 162, 98, 99]⟩) ∧ Below w.heap.size w w' from ⟨by rw [h.1, k6], h.2⟩))
  have r7 := fun w => (count_any ⟨#[97, 255, 98]⟩ (by decide) w).mono (fun e w' h => (show e = .returned (.int .i64 3) ∧ Below w.heap.size w w' from ⟨by rw [h.1, k7]; rfl, h.2⟩))
  have R1 := Lib.hid r1
  have R2 := Lib.hid r2
  have R3 := Lib.hid r3
  have R4 := Lib.hid r4
  have R5 := Lib.hid r5
  have R6 := Lib.hid r6
  have R7 := Lib.hid r7
  clear r1 r2 r3 r4 r5 r6 r7
  go_enter Try.func9, Try.ntmps9
  go_wp2_with fail
  refine (R1.out _).mono ?_
  rintro e w1 ⟨rfl, b1⟩
  go_wp2_with fail
  refine (R2.out _).mono ?_
  rintro e w2 ⟨rfl, b2⟩
  go_wp2_with fail
  refine (R3.out _).mono ?_
  rintro e w3 ⟨rfl, b3⟩
  go_wp2_with fail
  refine (R4.out _).mono ?_
  rintro e w4 ⟨rfl, b4⟩
  go_wp2_with fail
  refine (R5.out _).mono ?_
  rintro e w5 ⟨rfl, b5⟩
  go_wp2_with fail
  refine (R6.out _).mono ?_
  rintro e w6 ⟨rfl, b6⟩
  go_wp2_with fail
  refine (R7.out _).mono ?_
  rintro e w7 ⟨rfl, b7⟩
  go_wp2
  go_ret
  exact ⟨rfl, bump (bump (bump (bump (bump (bump b1 b2) b3) b4) b5) b6) b7⟩
end Go.Proofs.Ytiomokjidipjkaa
