/- walks: Weak -/
import Derived.Test.YtiomokjidipjkaaA4
import Derived.Deep.QuietTactic
import Derived.BigQuiet
import Derived.RegionTactic
import Derived.ChangeAlike
namespace Go.Proofs.Ytiomokjidipjkaa
open Go.RowKit
theorem mod256 (x : Int) : IntKind.u8.wrap x = x % 256 := by simp [IntKind.wrap, IntKind.signed, IntKind.bits]
set_option maxHeartbeats 2000000 in
set_option maxRecDepth 100000 in
theorem weak_any (s : ByteArray) (hs : s.size ≤ maxLen) (w : World) :
    Calls Try.prog 14 #[.string s] w fun e w' => e = .returned (.bool (weakB s)) ∧ Below w.heap.size w w' := by
  unfold maxLen at hs
  by_cases h4 : s.size < 4
  · have hf := Lib.hid (weak_short s h4)
    go_enter Try.func14, Try.ntmps14
    go_wp2
    go_ret
    exact ⟨ret_eq (congrArg Value.bool hf.out.symm), Below.refl _ _⟩
  by_cases h12 : 12 < s.size
  · have hf := Lib.hid (weak_long s h12)
    go_enter Try.func14, Try.ntmps14
    go_wp2
    go_ret
    exact ⟨ret_eq (congrArg Value.bool hf.out.symm), Below.refl _ _⟩
  go_enter Try.func14, Try.ntmps14
  go_wp2
  go_loop [3, 16] (fun _ i => ∃ k : Nat, k ≤ s.size ∧ i = .int .i64 k ∧ Hid (digs s k = true)) (fun _ i => s.size - (intOf i).toNat)
  case atStart => exact ⟨0, Nat.zero_le _, rfl, Lib.hid rfl⟩
  case round =>
    obtain ⟨k, hk, rfl, hd⟩ := hrel
    by_cases hlt : k < s.size
    · by_cases hdg : 48 ≤ bat s k ∧ bat s k ≤ 57
      · have hd' : Hid (digs s (k + 1) = true) := Lib.hid (by simp [digs, isD, hd.out, hdg])
        rw [bat_eq s k hlt] at hdg
        obtain ⟨g1, g2⟩ := hdg
        go_wp2
        go_round
        case rel => exact ⟨k + 1, by omega, by go_num, hd'⟩
        case measure => simp [intOf]; omega
      · have hf := Lib.hid (weak_nodig s k hlt hdg)
        rw [bat_eq s k hlt] at hdg
        go_wp2
        all_goals first
          | (go_ret; exact ⟨ret_eq (congrArg Value.bool hf.out.symm), Below.refl _ _⟩)
          | (exfalso; omega)
    · obtain rfl : k = s.size := by omega
      go_wp2
      have ws := weak_step s (by omega) (by omega) hd.out _ rfl
      rw [bat_eq s 1 (by omega), bat_eq s 0 (by omega)] at ws
      have WS := Lib.hid ws
      clear ws
      have p1 : 1 < s.size := by omega
      have p0 : 0 < s.size := by omega
      have q1 : (1 : Int) < (s.size : Int) := by omega
      have q0 : (0 : Int) < (s.size : Int) := by omega
      go_region
      all_goals go_wp2
      all_goals first
        | (go_ret
           have hf := WS.out.1 (by
             have h3 : ((((((s[1]'p1).toNat : Int) - ((s[0]'p0).toNat : Int)) % 256) != 0) = true ∧ (((((s[1]'p1).toNat : Int) - ((s[0]'p0).toNat : Int)) % 256) != 1) = true) ∧ (((((s[1]'p1).toNat : Int) - ((s[0]'p0).toNat : Int)) % 256) != 255) = true := by assumption
             simp only [bne_iff_ne] at h3; omega)
           exact ⟨ret_eq (congrArg Value.bool hf.symm), (Below.refl _ _).drew⟩)
        | (have hX : (((s[1]'p1).toNat : Int) - ((s[0]'p0).toNat : Int)) % 256 = 0 ∨ (((s[1]'p1).toNat : Int) - ((s[0]'p0).toNat : Int)) % 256 = 1 ∨ (((s[1]'p1).toNat : Int) - ((s[0]'p0).toNat : Int)) % 256 = 255 := by
             first
               | (left; assumption)
               | (right; left; assumption)
               | (have h3 : ((((((s[1]'p1).toNat : Int) - ((s[0]'p0).toNat : Int)) % 256) != 0) = false ∨ (((((s[1]'p1).toNat : Int) - ((s[0]'p0).toNat : Int)) % 256) != 1) = false) ∨ (((((s[1]'p1).toNat : Int) - ((s[0]'p0).toNat : Int)) % 256) != 255) = false := by assumption
                  simp only [bne_eq_false_iff_eq] at h3; omega)
           have HX := Lib.hid hX
           clear hX
           go_loopw [5] (fun i wr => ∃ m : Nat, m + 1 ≤ s.size ∧ i = .int .i64 (m + 1 : Nat) ∧ Below w.heap.size w wr ∧ Hid (∀ k, 1 ≤ k → k < m + 1 → (bat s k - bat s (k - 1)) % 256 = (((s[1]'p1).toNat : Int) - ((s[0]'p0).toNat : Int)) % 256))
             (fun i _ => s.size - (intOf i).toNat)
           case atStart => exact ⟨0, by omega, rfl, (Below.refl _ _).drew, Lib.hid (by intro k h1 h2; omega)⟩
           case round =>
             obtain ⟨m, hm, rfl, hbl, hall⟩ := hrel
             by_cases hlt : m + 1 < s.size
             · have q2 : (0 : Int) ≤ (m : Int) := by omega
               have q3 : ((m : Int) + 1) < (s.size : Int) := by omega
               have q4 : (m : Int) < (s.size : Int) := by omega
               have q5 : m < s.size := by omega
               have b1 := bat_eq s (m + 1) hlt
               have b0 := bat_eq s m q5
               have HB := Lib.hid (And.intro b1 b0)
               clear b1 b0
               go_wp2
               have q6 : (0 : Int) ≤ (m : Int) + 1 := by omega
               go_region
               all_goals go_wp2
               all_goals first
                 | (go_roundw
                    case rel =>
                      have hE : ((((s[m + 1]'hlt).toNat : Int) - ((s[m]'q5).toNat : Int)) % 256) = ((((s[1]'p1).toNat : Int) - ((s[0]'p0).toNat : Int)) % 256) := by
                        first
                          | (have h7 : (((((s[m + 1]'hlt).toNat : Int) - ((s[m]'q5).toNat : Int)) % 256) != 0) = false := by assumption
                             have : ((((s[1]'p1).toNat : Int) - ((s[0]'p0).toNat : Int)) % 256) = 0 := by assumption
                             simp only [bne_eq_false_iff_eq] at h7; omega)
                          | (have h7 : (((((s[m + 1]'hlt).toNat : Int) - ((s[m]'q5).toNat : Int)) % 256) != 1) = false := by assumption
                             have : ((((s[1]'p1).toNat : Int) - ((s[0]'p0).toNat : Int)) % 256) = 1 := by assumption
                             simp only [bne_eq_false_iff_eq] at h7; omega)
                          | (have : (((((s[m + 1]'hlt).toNat : Int) - ((s[m]'q5).toNat : Int)) % 256) != ((((s[1]'p1).toNat : Int) - ((s[0]'p0).toNat : Int)) % 256)) = false := by assumption
                             simpa using this)
                      refine ⟨m + 1, by omega, by go_num, hbl.drew, Lib.hid ?_⟩
                      intro k h1 h2
                      by_cases hk : k = m + 1
                      · subst hk
                        rw [Nat.add_sub_cancel, HB.out.1, HB.out.2]; exact hE
                      · exact hall.out k h1 (by omega)
                    case measure => simp [intOf]; omega)
                 | (go_ret
                    have hE : ((((s[m + 1]'hlt).toNat : Int) - ((s[m]'q5).toNat : Int)) % 256) ≠ ((((s[1]'p1).toNat : Int) - ((s[0]'p0).toNat : Int)) % 256) := by
                        first
                          | (have h7 : (((((s[m + 1]'hlt).toNat : Int) - ((s[m]'q5).toNat : Int)) % 256) != 0) = true := by assumption
                             have : ((((s[1]'p1).toNat : Int) - ((s[0]'p0).toNat : Int)) % 256) = 0 := by assumption
                             simp only [bne_iff_ne] at h7; omega)
                          | (have h7 : (((((s[m + 1]'hlt).toNat : Int) - ((s[m]'q5).toNat : Int)) % 256) != 1) = true := by assumption
                             have : ((((s[1]'p1).toNat : Int) - ((s[0]'p0).toNat : Int)) % 256) = 1 := by assumption
                             simp only [bne_iff_ne] at h7; omega)
                          | (have h7 : (((((s[m + 1]'hlt).toNat : Int) - ((s[m]'q5).toNat : Int)) % 256) != ((((s[1]'p1).toNat : Int) - ((s[0]'p0).toNat : Int)) % 256)) = true := by assumption
                             simpa using h7)
                    have hf := WS.out.2.1 (m + 1) (by omega) hlt (by rw [Nat.add_sub_cancel, HB.out.1, HB.out.2]; exact hE)
                    exact ⟨ret_eq (congrArg Value.bool hf.symm), hbl.drew⟩)
                 | skip
               go_ways
             · have hm' : m + 1 = s.size := by omega
               have q3 : ¬ ((m : Int) + 1) < (s.size : Int) := by omega
               have hf := WS.out.2.2 HX.out (fun k h1 h2 => hall.out k h1 (by omega))
               have HF := Lib.hid hf
               clear hf hm'
               go_wp2
               go_ret
               exact ⟨ret_eq (congrArg Value.bool HF.out.symm), hbl⟩)
end Go.Proofs.Ytiomokjidipjkaa
