/- MKnA, MBuA -/
import Derived.Test.YtopamplmpfndlaaEal
import Derived.Test.YtopamplmpfndlaaEak
import Derived.Test.YtopamplmpfndlaaEam
import Derived.Lib.SlBytesConst
set_option maxRecDepth 100000
set_option maxHeartbeats 16000000
namespace Go.Proofs.Ytopamplmpfndlaa.Sm
open Go.RowKit
end Go.Proofs.Ytopamplmpfndlaa.Sm
namespace Go.Proofs.Ytopamplmpfndlaa.Sm
open Go.RowKit
def beV : List UInt8 → Nat
 | [] => 0
 | x :: l => x.toNat * 256 ^ l.length + beV l
theorem beV_lt : ∀ l, beV l < 256 ^ l.length
 | [] => by simp [beV]
 | x :: l => by
  have h := beV_lt l
  have hx := x.toNat_lt
  have h2 : (x.toNat + 1) * 256 ^ l.length ≤ 256 * 256 ^ l.length := Nat.mul_le_mul_right _ (by omega)
  have h3 : (x.toNat + 1) * 256 ^ l.length = x.toNat * 256 ^ l.length + 256 ^ l.length := by rw [Nat.add_mul, Nat.one_mul]
  simp only [beV, List.length_cons, Nat.pow_succ]
  omega
theorem beV_num (n : Int) (h0 : 0 ≤ n) (h1 : n < 18446744073709551616) : (beV (numL n) : Int) = n := by
 simp only [numL, beV, List.length_cons, List.length_nil, Int.natCast_add, Int.natCast_mul, by8_int]
 simp only [Nat.zero_add, Nat.reduceAdd, Nat.reducePow, Int.natCast_zero, Int.cast_ofNat_Int]
 omega
theorem u64_join (a b : Int) (ha : 0 ≤ a) (ha' : a < 72057594037927936) (hb : 0 ≤ b) (hb' : b < 256) : bits .or .u64 (a * 256) b = a * 256 + b := by
 rw [u64_or (a * 256) b (by omega) (by omega) (by omega) (by omega)]
 have h := Nat.shiftLeft_add_eq_or_of_lt (i := 8) (b := b.toNat) (by omega) a.toNat
 rw [Nat.shiftLeft_eq] at h
 rw [show (a * 256).toNat = a.toNat * 2 ^ 8 by omega, ← h]
 omega
theorem num_at (n : Int) (i : Nat) (hi : i < 8) : (((numL n).getD i 0).toNat : Int) = n / 256 ^ (7 - i) % 256 := by
 have h : i = 0 ∨ i = 1 ∨ i = 2 ∨ i = 3 ∨ i = 4 ∨ i = 5 ∨ i = 6 ∨ i = 7 := by omega
 rcases h with rfl | rfl | rfl | rfl | rfl | rfl | rfl | rfl
 all_goals first | exact by8_int _ | (rw [Nat.sub_self, Int.pow_zero, Int.ediv_one]; exact by8_int _)
end Go.Proofs.Ytopamplmpfndlaa.Sm
