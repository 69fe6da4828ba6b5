/- walks: word of both -/
import Derived.Test.YtmjfnpmnhehnkaaSmD
namespace Go.Proofs.Ytmjfnpmnhehnkaa.Sm
open Go.RowKit
def word4 (a b c d : UInt8) : Int := (a.toNat : Int) + (b.toNat : Int) * 256 + (c.toNat : Int) * 65536 + (d.toNat : Int) * 16777216
theorem u8lt (a : UInt8) : (0 : Int) ≤ (a.toNat : Int) ∧ (a.toNat : Int) < 256 := ⟨by omega, by have := a.toNat_lt; omega⟩
theorem or_join' (i : Nat) (b a : Int) (ha : 0 ≤ a) (ha' : a < 4294967296) (hb : 0 ≤ b) (hb' : b < 4294967296) (h1 : a.toNat % 2 ^ i = 0) (h2 : b.toNat < 2 ^ i) : bits .or .u32 b a = b + a := by
  rw [u32_or b a hb hb' ha ha', Nat.or_comm, nat_join i _ _ h1 h2]; omega
theorem word4_w (a b c d : UInt8) : isW (word4 a b c d) := by
  have := u8lt a; have := u8lt b; have := u8lt c; have := u8lt d
  unfold word4 isW; omega
set_option maxHeartbeats 1000000 in
set_option maxRecDepth 100000 in
theorem word_any (A o n c : Nat) (hn : 4 ≤ n) (x0 x1 x2 x3 : UInt8) (w : World)
    (c0 : w.cell? ⟨A, o, none⟩ = some (.int .u8 x0.toNat)) (c1 : w.cell? ⟨A, o + 1, none⟩ = some (.int .u8 x1.toNat)) (c2 : w.cell? ⟨A, o + 2, none⟩ = some (.int .u8 x2.toNat)) (c3 : w.cell? ⟨A, o + 3, none⟩ = some (.int .u8 x3.toNat)) :
    Calls Try.prog 142 #[.slice (some ⟨A, o, none⟩) n c] w fun e w' => e = .returned (.int .u32 (word4 x0 x1 x2 x3)) ∧ ∃ m, w' = w.drewN m := by
  obtain ⟨a0, a1⟩ := u8lt x0
  obtain ⟨b0, b1⟩ := u8lt x1
  obtain ⟨d0, d1⟩ := u8lt x2
  obtain ⟨e0, e1⟩ := u8lt x3
  have n0 : (0 : Int) < (n : Int) := by omega
  have n1 : (1 : Int) < (n : Int) := by omega
  have n2 : (2 : Int) < (n : Int) := by omega
  have n3 : (3 : Int) < (n : Int) := by omega
  go_enter Try.func142, Try.ntmps142
  go_wp2
  go_quiet (fail)
  go_wp2
  go_ret
  refine ⟨smret (congrArg (Value.int .u32) ?_), _, rfl⟩
  rw [or_join' 8 (x0.toNat : Int) ((x1.toNat : Int) * 256) (by omega) (by omega) (by omega) (by omega) (by omega) (by omega), or_join' 16 ((x0.toNat : Int) + (x1.toNat : Int) * 256) ((x2.toNat : Int) * 65536) (by omega) (by omega) (by omega) (by omega) (by omega) (by omega), or_join' 24 ((x0.toNat : Int) + (x1.toNat : Int) * 256 + (x2.toNat : Int) * 65536) ((x3.toNat : Int) * 16777216) (by omega) (by omega) (by omega) (by omega) (by omega) (by omega)]
  unfold word4; omega
set_option maxHeartbeats 1000000 in
set_option maxRecDepth 100000 in
theorem rword_any (A o n c : Nat) (hn : 4 ≤ n) (x0 x1 x2 x3 : UInt8) (w : World)
    (c0 : w.cell? ⟨A, o, none⟩ = some (.int .u8 x0.toNat)) (c1 : w.cell? ⟨A, o + 1, none⟩ = some (.int .u8 x1.toNat)) (c2 : w.cell? ⟨A, o + 2, none⟩ = some (.int .u8 x2.toNat)) (c3 : w.cell? ⟨A, o + 3, none⟩ = some (.int .u8 x3.toNat)) :
    Calls Try.prog 107 #[.slice (some ⟨A, o, none⟩) n c] w fun e w' => e = .returned (.int .u32 (word4 x0 x1 x2 x3)) ∧ w = w' := by
  obtain ⟨a0, a1⟩ := u8lt x0
  obtain ⟨b0, b1⟩ := u8lt x1
  obtain ⟨d0, d1⟩ := u8lt x2
  obtain ⟨e0, e1⟩ := u8lt x3
  have n0 : (0 : Int) < (n : Int) := by omega
  have n1 : (1 : Int) < (n : Int) := by omega
  have n2 : (2 : Int) < (n : Int) := by omega
  have n3 : (3 : Int) < (n : Int) := by omega
  go_enter Try.func107, Try.ntmps107
  go_wp2
  refine wp_loop_rounds 5 ?_
  rw [rounds_succ]
  go_wp2
  rw [rounds_succ]
  go_wp2
  rw [rounds_succ]
  go_wp2
  rw [rounds_succ]
  go_wp2
  rw [rounds_succ]
  go_wp2
  go_ret
  refine ⟨smret (congrArg (Value.int .u32) ?_), rfl⟩
  unfold word4; omega
end Go.Proofs.Ytmjfnpmnhehnkaa.Sm
