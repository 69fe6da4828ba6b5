/- walks: bits.RotateLeft32, the document's own turn -/
import Derived.Test.YtmjfnpmnhehnkaaRows
import Derived.Test.YtmjfnpmnhehnkaaSmA
import Derived.WalkKit
import Derived.WalkSpells
import Derived.WalkLawsBesides
import Derived.LoopTactic
namespace Go.Proofs.Ytmjfnpmnhehnkaa.Sm
open Go.RowKit
theorem smret {a b : Value} (h : a = b) : Ending.returned a = Ending.returned b := by rw [h]
theorem or_join (i : Nat) (a b : Int) (ha : 0 ≤ a) (ha' : a < 4294967296) (hb : 0 ≤ b) (hb' : b < 4294967296) (h1 : a.toNat % 2 ^ i = 0) (h2 : b.toNat < 2 ^ i) : bits .or .u32 a b = a + b := by
  rw [u32_or a b ha ha' hb hb', nat_join i _ _ h1 h2]; omega
set_option maxHeartbeats 1000000 in
theorem rol16 (x : Int) (h : isW x) (w : World) :
    Calls Try.prog 143 #[.int .u32 x, .int .i64 16] w fun e w' => e = .returned (.int .u32 (rotN 16 x)) ∧ w = w' := by
  have h0 : 0 ≤ x := h.1
  have h1 : x < 4294967296 := h.2
  go_enter Try.func143, Try.ntmps143
  have hb : bits BinOp.and IntKind.u64 16 31 = 16 := by decide
  go_wp2
  go_ret
  refine ⟨smret (congrArg (Value.int .u32) ?_), rfl⟩
  clear hb
  rw [or_join 16 _ _ (by omega) (by omega) (by omega) (by omega) (by omega) (by omega), rot_16 h]
set_option maxHeartbeats 1000000 in
theorem rol12 (x : Int) (h : isW x) (w : World) :
    Calls Try.prog 143 #[.int .u32 x, .int .i64 12] w fun e w' => e = .returned (.int .u32 (rotN 12 x)) ∧ w = w' := by
  have h0 : 0 ≤ x := h.1
  have h1 : x < 4294967296 := h.2
  go_enter Try.func143, Try.ntmps143
  have hb : bits BinOp.and IntKind.u64 12 31 = 12 := by decide
  go_wp2
  go_ret
  refine ⟨smret (congrArg (Value.int .u32) ?_), rfl⟩
  clear hb
  rw [or_join 12 _ _ (by omega) (by omega) (by omega) (by omega) (by omega) (by omega), rot_12 h]
set_option maxHeartbeats 1000000 in
theorem rol8 (x : Int) (h : isW x) (w : World) :
    Calls Try.prog 143 #[.int .u32 x, .int .i64 8] w fun e w' => e = .returned (.int .u32 (rotN 8 x)) ∧ w = w' := by
  have h0 : 0 ≤ x := h.1
  have h1 : x < 4294967296 := h.2
  go_enter Try.func143, Try.ntmps143
  have hb : bits BinOp.and IntKind.u64 8 31 = 8 := by decide
  go_wp2
  go_ret
  refine ⟨smret (congrArg (Value.int .u32) ?_), rfl⟩
  clear hb
  rw [or_join 8 _ _ (by omega) (by omega) (by omega) (by omega) (by omega) (by omega), rot_8 h]
set_option maxHeartbeats 1000000 in
theorem rol7 (x : Int) (h : isW x) (w : World) :
    Calls Try.prog 143 #[.int .u32 x, .int .i64 7] w fun e w' => e = .returned (.int .u32 (rotN 7 x)) ∧ w = w' := by
  have h0 : 0 ≤ x := h.1
  have h1 : x < 4294967296 := h.2
  go_enter Try.func143, Try.ntmps143
  have hb : bits BinOp.and IntKind.u64 7 31 = 7 := by decide
  go_wp2
  go_ret
  refine ⟨smret (congrArg (Value.int .u32) ?_), rfl⟩
  clear hb
  rw [or_join 7 _ _ (by omega) (by omega) (by omega) (by omega) (by omega) (by omega), rot_7 h]
set_option maxHeartbeats 1000000 in
theorem turn_any (x : Int) (h : isW x) (k : Nat) (hk : k ≤ 16) (w : World) :
    Calls Try.prog 136 #[.int .u32 x, .int .i64 k] w fun e w' => e = .returned (.int .u32 (rotN k x)) ∧ w = w' := by
  go_enter Try.func136, Try.ntmps136
  go_wp2
  go_loop [0, 1] (fun a i => ∃ j : Nat, j ≤ k ∧ i = .int .i64 j ∧ a = .int .u32 (rotN (k - j) x)) (fun _ i => (intOf i).toNat)
  case atStart => exact ⟨k, Nat.le_refl _, rfl, by rw [Nat.sub_self]; rfl⟩
  case round =>
    obtain ⟨j, hj, rfl, rfl⟩ := hrel
    have hw := rotN_w h (k - j)
    obtain ⟨y, hy⟩ : ∃ y, y = rotN (k - j) x := ⟨_, rfl⟩
    rw [← hy] at hw ⊢
    have HY := Lib.hid hy
    clear hy
    have hw0 := hw.1
    have hw1 := hw.2
    by_cases hlt : 0 < j
    · go_wp2
      go_round
      case rel =>
        refine ⟨j - 1, by omega, by rw [show (j : Int) - 1 = ((j - 1 : Nat) : Int) by omega], ?_⟩
        rw [or_join 1 _ _ (by omega) (by omega) (by omega) (by omega) (by omega) (by omega), HY.out, show k - (j - 1) = (k - j) + 1 by omega]
        rfl
      case measure => simp [intOf]; omega
    · obtain rfl : j = 0 := by omega
      go_wp2
      go_ret
      exact ⟨smret (congrArg (Value.int .u32) HY.out), rfl⟩
end Go.Proofs.Ytmjfnpmnhehnkaa.Sm
