/- a drawn region with assertions on memory; counting votes -/
import Derived.Test.YtgoiidpcdifojaaEj
import Derived.Test.YtgoiidpcdifojaaEh
import Derived.Test.YtgoiidpcdifojaaRoM
namespace Go.Proofs.Ytgoiidpcdifojaa
open Go.RowKit
open Sm (digV DB by8 sumL numL zero16 by8_int)
inductive Av where
  | any
  | is (x : Value)
  | vp (l : List (Int × List UInt8))
  | own (B : Nat) (l : List (Int × List UInt8))
def Av.holds : Av → Value → World → Prop
  | .any, _, _ => True
  | .is x, v, _ => v = x
  | .vp l, v, w => ∃ q : Vp, v = q.V ∧ q.l = l ∧ q.In w w.heap.size
  | .own B l, v, w => vown w B v l
theorem Av.stable {s : Av} {v : Value} {w w' : World} (h : s.holds v w) (k : Ex w w') : s.holds v w' := by
  cases s with
  | any => exact h
  | is x => exact h
  | vp l => obtain ⟨q, h1, h2, h3⟩ := h; exact ⟨q, h1, h2, h3.ext k⟩
  | own B l => exact vown_under h k
structure JM (base : World) (T : List Av) (listed : Array Bool) (f : Nat → Value) (w : World) : Prop where
  ext : Ex base w
  vals : ∀ (i : Nat), listed.getD i false = true → (T.getD i .any).holds (f i) w
theorem JM.start {T : List Av} (w : World) (listed : Array Bool) (f : Nat → Value) (h : ∀ i, listed.getD i false = false) : JM w T listed f w.drew :=
  ⟨(Below.refl _ _).drew, fun i hi => absurd hi (by rw [h i]; decide)⟩
theorem JM.next {base : World} {T : List Av} {listed : Array Bool} {f : Nat → Value} {w w' : World} {i : Nat} {v : Value} (h : JM base T listed f w) (hx : Ex w w') (hv : (T.getD i .any).holds v w') : JM base T (listed.setIfInBounds i true) (upd f i v) w' := by
  refine ⟨Ex.trans h.ext hx, fun j hj => ?_⟩
  by_cases e : j = i
  · subst e; rw [upd_same]; exact hv
  · rw [upd_ne _ _ e]
    rcases listed_set hj with rfl | hj
    · exact absurd rfl e
    · exact Av.stable (h.vals j hj) hx
theorem and_low (x : Int) (j : Nat) (hj : j ≤ 8) : bits .and .i64 x ((2 ^ j - 1 : Nat) : Int) = x % 2 ^ j := by
  have hp : 2 ^ j ≤ 2 ^ 8 := Nat.pow_le_pow_right (by decide) hj
  have hp0 : 0 < 2 ^ j := Nat.two_pow_pos j
  have hm : 2 ^ j - 1 < 256 := by omega
  have e : bits .and .i64 x ((2 ^ j - 1 : Nat) : Int) = (((BitVec.ofInt 64 x).toNat &&& (2 ^ j - 1) : Nat) : Int) := by
    have h1 : (BitVec.ofInt 64 x).toNat &&& (2 ^ j - 1) < 256 := Nat.lt_of_le_of_lt Nat.and_le_right hm
    simp only [bits]
    have e : (BitVec.ofInt IntKind.i64.bits x &&& BitVec.ofInt IntKind.i64.bits ((2 ^ j - 1 : Nat) : Int)).toNat = (BitVec.ofInt 64 x).toNat &&& (2 ^ j - 1) := by
      rw [BitVec.toNat_and, BitVec.ofInt_natCast, BitVec.toNat_ofNat]
      rw [Nat.mod_eq_of_lt (show 2 ^ j - 1 < 2 ^ IntKind.i64.bits by simp [IntKind.bits]; omega)]
      rfl
    rw [e]
    exact IntWalk.i64_in _ ⟨by omega, by omega⟩
  rw [e, Nat.and_two_pow_sub_one_eq_mod, BitVec.toNat_ofInt]
  have hd : ((2 ^ 64 : Nat) : Int) = 2 ^ j * 2 ^ (64 - j) := by
    rw [← Int.pow_add, show j + (64 - j) = 64 by omega]; rfl
  have hnn : 0 ≤ x % ((2 ^ 64 : Nat) : Int) := Int.emod_nonneg _ (by decide)
  rw [Int.natCast_emod, Int.toNat_of_nonneg hnn, hd]
  have hc : ((2 ^ j : Nat) : Int) = 2 ^ j := by norm_cast
  rw [hc]
  exact Int.emod_emod_of_dvd _ ⟨_, rfl⟩
theorem bitI_is (x : Int) (k : Nat) : bitI x k = x / 2 ^ k % 2 := and_low (x / 2 ^ k) 1 (by decide)
theorem and255 (x : Int) : bits .and .i64 x 255 = x % 256 := and_low x 8 (by decide)
theorem bitI_mod (x : Int) (k : Nat) (hk : k < 8) : bitI (x % 256) k = bitI x k := by
  rw [bitI_is, bitI_is]
  rcases (show k = 0 ∨ k = 1 ∨ k = 2 ∨ k = 3 ∨ k = 4 ∨ k = 5 ∨ k = 6 ∨ k = 7 by omega) with rfl | rfl | rfl | rfl | rfl | rfl | rfl | rfl <;> simp only [Int.reducePow] <;> omega
theorem bitI_nat (n k : Nat) : decide (bitI (n : Int) k = 1) = n.testBit k := by
  rw [bitI_is, Nat.testBit_eq_decide_div_mod_eq]
  rw [decide_eq_decide]
  have : ((n : Int) / 2 ^ k % 2) = ((n / 2 ^ k % 2 : Nat) : Int) := by norm_cast
  omega
theorem bitI_zero (k : Nat) : bitI 0 k ≠ 1 := by rw [bitI_is]; simp
/-- the bits of those that a test takes -/
def rR (t : Nat → Bool) : Nat → Nat
  | 0 => 0
  | k + 1 => if t k = true then rR t k ||| 2 ^ k else rR t k
theorem rR_bit (t : Nat → Bool) : ∀ k i, (rR t k).testBit i = (decide (i < k) && t i)
  | 0, i => by simp [rR]
  | k + 1, i => by
    unfold rR
    by_cases h : t k = true
    · rw [if_pos h, Nat.testBit_or, rR_bit t k i, Nat.testBit_two_pow]
      by_cases e : k = i
      · subst e; simp [h]
      · have : decide (i < k + 1) = decide (i < k) := by rw [decide_eq_decide]; omega
        rw [this]; simp [e]
    · rw [if_neg h, rR_bit t k i]
      by_cases e : k = i
      · subst e; simp at h; simp [h]
      · have : decide (i < k + 1) = decide (i < k) := by rw [decide_eq_decide]; omega
        rw [this]
theorem rR_lt (t : Nat → Bool) : ∀ k, k ≤ 8 → rR t k < 256
  | 0, _ => by unfold rR; decide
  | k + 1, h => by
    unfold rR
    have h1 := rR_lt t k (by omega)
    split
    · have h2 : 2 ^ k < 2 ^ 8 := Nat.pow_lt_pow_right (by decide) (by omega)
      exact Nat.or_lt_two_pow (n := 8) h1 h2
    · exact h1
def cR (t : Nat → Bool) (k : Nat) : Nat := (List.range k).countP t
theorem cR_succ (t : Nat → Bool) (k : Nat) : cR t (k + 1) = cR t k + if t k = true then 1 else 0 := by
  unfold cR; rw [List.range_succ, List.countP_append]; simp [List.countP_cons]
theorem cR_le (t : Nat → Bool) (k : Nat) : cR t k ≤ k := by
  unfold cR; exact Nat.le_trans List.countP_le_length (by simp)
theorem votes_mem (C : List UInt8) (v : Int) (l : List Int) (X : Int) (j : Nat) (hj : j < 8) : ((j : Int), markL (keyL C j) v l) ∈ votesL C v l X 0 8 ↔ bitI X j = 1 := by
  unfold votesL
  rw [List.mem_flatMap]
  constructor
  · rintro ⟨i, hi, h⟩
    unfold voteL at h
    by_cases hb : bitI X i = 1
    · rw [if_pos hb, if_neg (bitI_zero i)] at h
      have h1 := congrArg Prod.fst (List.mem_singleton.1 h)
      simp only at h1
      have : j = i := by exact_mod_cast h1
      rw [this]; exact hb
    · rw [if_neg hb] at h; cases h
  · intro h
    exact ⟨j, List.mem_range.2 hj, by unfold voteL; rw [if_pos h, if_neg (bitI_zero j)]; exact List.mem_singleton.2 rfl⟩
theorem cnt_votes (C : List UInt8) (v : Int) (l : List Int) (X : Int) (b : Nat) : cntN C v l (votesL C v l X 0 8) (mem8 b 8) = cR (fun i => decide (bitI X i = 1) && decide (b / 2 ^ i % 2 = 1)) 8 := by
  unfold cntN mem8 cR
  rw [List.countP_map, List.countP_filter]
  refine List.countP_congr fun i hi => ?_
  have h := votes_mem C v l X i (List.mem_range.1 hi)
  simp only [Function.comp, Bool.and_eq_true, decide_eq_true_eq]
  rw [h]
theorem mem8_mem (b i : Nat) (hi : i < 8) : (i : Int) ∈ mem8 b 8 ↔ b / 2 ^ i % 2 = 1 := by
  unfold mem8
  rw [List.mem_map]
  constructor
  · rintro ⟨j, hj, e⟩
    obtain rfl : j = i := by exact_mod_cast e
    simpa using (List.mem_filter.1 hj).2
  · intro h
    exact ⟨i, List.mem_filter.2 ⟨List.mem_range.2 hi, by simpa using h⟩, rfl⟩
theorem cR_congr {t u : Nat → Bool} {k : Nat} (h : ∀ i, i < k → t i = u i) : cR t k = cR u k :=
  List.countP_congr fun i hi => by rw [h i (List.mem_range.1 hi)]
/-- the test of the statement's loop -/
def tB (who : Int) (b : Nat) (i : Nat) : Bool := decide (bitI who i = 1) && hasB 3 (mem8 b 8) i
theorem tB_is (who : Int) (b : Nat) (hr : rightB 3 (mem8 b 8) = true) (i : Nat) (hi : i < 8) : tB who b i = (decide (bitI who i = 1) && decide (b / 2 ^ i % 2 = 1)) := by
  unfold tB hasB
  rw [hr, Bool.true_and]
  congr 1
  rw [decide_eq_decide]; exact mem8_mem b i hi
theorem cnt_all (C : List UInt8) (v : Int) (l : List Int) (who : Int) (b : Nat) (hr : rightB 3 (mem8 b 8) = true) : cntN C v l (votesL C v l (who % 256) 0 8) (mem8 b 8) = cR (tB who b) 8 := by
  rw [cnt_votes]
  exact cR_congr fun i hi => by rw [bitI_mod who i hi, tB_is who b hr i hi]
theorem cnt_right (C : List UInt8) (v : Int) (l : List Int) (who : Int) (b : Nat) (hr : rightB 3 (mem8 b 8) = true) : cntN C v l (votesL C v l (rR (tB who b) 8 : Nat) 0 8) (mem8 b 8) = cR (tB who b) 8 := by
  rw [cnt_votes]
  exact cR_congr fun i hi => by
    rw [bitI_nat, rR_bit, decide_eq_true hi, Bool.true_and, tB_is who b hr i hi]
    cases decide (b / 2 ^ i % 2 = 1) <;> simp
end Go.Proofs.Ytgoiidpcdifojaa
