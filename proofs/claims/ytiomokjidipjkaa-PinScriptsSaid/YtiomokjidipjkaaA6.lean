/- walks: the document's own Weak -/
import Derived.Test.YtiomokjidipjkaaA4
import Derived.Deep.QuietTactic
import Derived.BigQuiet
import Derived.RegionTactic
import Derived.ChangeAlike
import Derived.IntWalk
namespace Go.Proofs.Ytiomokjidipjkaa
open Go.RowKit
theorem stp_one (s : ByteArray) (d : Int) : stp s d 1 = true := rfl
theorem stp_succ (s : ByteArray) (d : Int) (k : Nat) : stp s d (k + 2) = (stp s d (k + 1) && (bat s (k + 1) - bat s k == d)) := rfl
theorem wrap_bytes (a b : UInt8) : wrap64 ((a.toNat : Int) - wrap64 (b.toNat : Int)) = (a.toNat : Int) - (b.toNat : Int) := by
  have h1 := UInt8.toNat_lt a
  have h2 := UInt8.toNat_lt b
  unfold wrap64; omega
set_option maxHeartbeats 4000000 in
set_option maxRecDepth 100000 in
theorem refWeak_any (s : ByteArray) (hs : s.size ≤ maxLen) (w : World) :
    Calls Try.prog 16 #[.string s] w fun e w' => e = .returned (.bool (weakB s)) ∧ Below w.heap.size w w' := by
  unfold maxLen at hs
  by_cases h4 : s.size < 4
  · have hf := Lib.hid (weak_short s h4)
    go_enter Try.func16, Try.ntmps16
    go_wp2
    go_ret
    exact ⟨ret_eq (congrArg Value.bool hf.out.symm), Below.refl _ _⟩
  by_cases h12 : 12 < s.size
  · have hf := Lib.hid (weak_long s h12)
    go_enter Try.func16, Try.ntmps16
    go_wp2
    go_ret
    exact ⟨ret_eq (congrArg Value.bool hf.out.symm), Below.refl _ _⟩
  go_enter Try.func16, Try.ntmps16
  go_wp2
  go_loopw [3, 4, 5, 6] (fun a b c i wr => ∃ k : Nat, k ≤ s.size ∧ i = .int .i64 k ∧ Hid (digs s k = true) ∧ a = .bool (stp s 0 k) ∧ b = .bool (stp s 1 k) ∧ c = .bool (stp s (-1) k) ∧ Below w.heap.size w wr)
    (fun _ _ _ i _ => s.size - (intOf i).toNat)
  case atStart => exact ⟨0, Nat.zero_le _, rfl, Lib.hid rfl, rfl, rfl, rfl, Below.refl _ _⟩
  case round =>
    obtain ⟨k, hk, rfl, hd, rfl, rfl, rfl, hbl⟩ := hrel
    by_cases hlt : k < s.size
    · by_cases hdg : 48 ≤ bat s k ∧ bat s k ≤ 57
      · have hd' : Hid (digs s (k + 1) = true) := Lib.hid (by simp [digs, isD, hd.out, hdg])
        have hbk := Lib.hid (bat_eq s k hlt)
        rw [hbk.out] at hdg
        obtain ⟨g1, g2⟩ := hdg
        by_cases hk0 : k = 0
        · subst hk0
          clear hd
          go_wp2
          go_roundw
          case rel => exact ⟨1, by omega, rfl, hd', rfl, rfl, rfl, hbl⟩
          case measure => simp [intOf]; omega
        · obtain ⟨m, rfl⟩ : ∃ m, k = m + 1 := ⟨k - 1, by omega⟩
          clear hk0
          have q2 : (0 : Int) ≤ (m : Int) := by omega
          have q3 : ((m : Int) + 1) < (s.size : Int) := by omega
          have q4 : (m : Int) < (s.size : Int) := by omega
          have q5 : m < s.size := by omega
          have q6 : (0 : Int) ≤ (m : Int) + 1 := by omega
          have q7 : (0 : Int) < (m : Int) + 1 := by omega
          have b0 := Lib.hid (bat_eq s m q5)
          obtain ⟨f0, hf0⟩ : ∃ f, f = stp s 0 (m + 1) := ⟨_, rfl⟩
          obtain ⟨f1, hf1⟩ : ∃ f, f = stp s 1 (m + 1) := ⟨_, rfl⟩
          obtain ⟨f2, hf2⟩ : ∃ f, f = stp s (-1) (m + 1) := ⟨_, rfl⟩
          rw [← hf0, ← hf1, ← hf2]
          have H0 := Lib.hid hf0
          have H1 := Lib.hid hf1
          have H2 := Lib.hid hf2
          clear hf0 hf1 hf2
          go_wp2
          go_region
          all_goals (cases f0 <;> cases f1 <;> cases f2 <;> go_wp2)
          all_goals go_roundw
          all_goals first
            | (case rel =>
                 refine ⟨m + 2, by omega, by go_num, hd', ?_, ?_, ?_, hbl.drew⟩
                 · rw [stp_succ, ← H0.out, hbk.out, b0.out]; simp [wrap_bytes]
                 · rw [stp_succ, ← H1.out, hbk.out, b0.out]; simp [wrap_bytes]
                 · rw [stp_succ, ← H2.out, hbk.out, b0.out]; simp [wrap_bytes])
            | (case measure => simp [intOf]; omega)
      · have hf := Lib.hid (weak_nodig s k hlt hdg)
        rw [bat_eq s k hlt] at hdg
        go_wp2
        all_goals first
          | (go_ret; exact ⟨ret_eq (congrArg Value.bool hf.out.symm), hbl⟩)
          | (exfalso; omega)
    · obtain rfl : k = s.size := by omega
      have hf := Lib.hid (weak_of s (by omega) (by omega) hd.out)
      clear hd
      obtain ⟨f0, hf0⟩ : ∃ f, f = stp s 0 s.size := ⟨_, rfl⟩
      obtain ⟨f1, hf1⟩ : ∃ f, f = stp s 1 s.size := ⟨_, rfl⟩
      obtain ⟨f2, hf2⟩ : ∃ f, f = stp s (-1) s.size := ⟨_, rfl⟩
      rw [← hf0, ← hf1, ← hf2] at hf
      rw [← hf0, ← hf1, ← hf2]
      clear hf0 hf1 hf2
      cases f0 <;> cases f1 <;> cases f2 <;> go_wp2
      all_goals (go_ret; exact ⟨ret_eq (congrArg Value.bool hf.out.symm), hbl⟩)
end Go.Proofs.Ytiomokjidipjkaa
