/- which members there are, as numbers -/
import Derived.Test.YtgoiidpcdifojaaRoK
namespace Go.Proofs.Ytgoiidpcdifojaa
open Go.RowKit
theorem and_mask (x : Int) (m : Nat) (hm : m < 256) : ∃ n : Nat, n < 256 ∧ n &&& m = n ∧ bits .and .i64 x (m : Int) = (n : Int) := by
  refine ⟨(BitVec.ofInt 64 x).toNat &&& m, Nat.lt_of_le_of_lt Nat.and_le_right hm, ?_, ?_⟩
  · rw [Nat.and_assoc, Nat.and_self]
  · have h1 : (BitVec.ofInt 64 x).toNat &&& m < 256 := Nat.lt_of_le_of_lt Nat.and_le_right hm
    simp only [bits]
    have e : (BitVec.ofInt IntKind.i64.bits x &&& BitVec.ofInt IntKind.i64.bits (m : Int)).toNat = (BitVec.ofInt 64 x).toNat &&& m := by
      rw [BitVec.toNat_and, BitVec.ofInt_natCast, BitVec.toNat_ofNat]
      rw [Nat.mod_eq_of_lt (show m < 2 ^ IntKind.i64.bits by simp [IntKind.bits]; omega)]
      rfl
    rw [e]
    exact IntWalk.i64_in _ ⟨by omega, by omega⟩
theorem and_nat (a b : Nat) (ha : a < 256) (hb : b < 256) : bits .and .i64 (a : Int) (b : Int) = ((a &&& b : Nat) : Int) :=
  (bits_nat .i64 62 (by decide) (fun n h0 h1 => by rw [IntKind.wrap_i64]; omega) a b (by omega) (by omega)).1
/-- With of the members that a number tells -/
def chk (b k : Nat) : Bool := !decide (withB 1 (mem8 b 8) k = true) || (decide (withL 1 (mem8 b 8) k = mem8 (b ||| 2 ^ k) 8) && decide (withV 1 (mem8 b 8) k = 2))
theorem chk_all : ((List.range 256).all fun b => (List.range 8).all fun k => chk b k) = true := by decide +kernel
theorem chk_is {b k : Nat} (hb : b < 256) (hk : k < 8) (h : withB 1 (mem8 b 8) k = true) : withL 1 (mem8 b 8) k = mem8 (b ||| 2 ^ k) 8 ∧ withV 1 (mem8 b 8) k = 2 := by
  have h1 := List.all_eq_true.1 chk_all b (List.mem_range.2 hb)
  have h2 := List.all_eq_true.1 h1 k (List.mem_range.2 hk)
  unfold chk at h2
  rw [h] at h2
  simpa using h2
def chs (b : Nat) : Bool := decide (setN (mem8 b 8) = b) && (decide (b = 0) || (decide (majI 1 (mem8 b 8) = ((pop8 b / 2 + 1 : Nat) : Int)) && (decide (majI 2 (mem8 b 8) = ((pop8 b / 2 + 1 : Nat) : Int)) && decide (goodL (mem8 b 8)))))
theorem chs_all : ((List.range 256).all fun b => chs b) = true := by decide +kernel
theorem chs_is {b : Nat} (hb : b < 256) : setN (mem8 b 8) = b ∧ (b ≠ 0 → majI 1 (mem8 b 8) = ((pop8 b / 2 + 1 : Nat) : Int) ∧ majI 2 (mem8 b 8) = ((pop8 b / 2 + 1 : Nat) : Int) ∧ goodL (mem8 b 8)) := by
  have h2 := List.all_eq_true.1 chs_all b (List.mem_range.2 hb)
  unfold chs at h2
  simp only [Bool.and_eq_true, Bool.or_eq_true, decide_eq_true_eq] at h2
  refine ⟨h2.1, fun h => ?_⟩
  rcases h2.2 with h3 | h3
  · exact absurd h3 h
  · exact ⟨h3.1, h3.2.1, h3.2.2⟩
theorem tb (n i : Nat) : (n.testBit i).toNat = n / 2 ^ i % 2 := by
  rw [Nat.toNat_testBit]
theorem pop_bits (n : Nat) : pop8 n = (n.testBit 0).toNat + (n.testBit 1).toNat + (n.testBit 2).toNat + (n.testBit 3).toNat + (n.testBit 4).toNat + (n.testBit 5).toNat + (n.testBit 6).toNat + (n.testBit 7).toNat := by
  simp only [tb]
  simp [pop8]
theorem pop_apart {p q y : Nat} (hp : p &&& y = p) (hq : q &&& y = q) (h0 : p &&& q = 0) : pop8 p + pop8 q ≤ pop8 y := by
  have key : ∀ i, (p.testBit i).toNat + (q.testBit i).toNat ≤ (y.testBit i).toNat := by
    intro i
    have h1 := congrArg (fun n => n.testBit i) hp
    have h2 := congrArg (fun n => n.testBit i) hq
    have h3 := congrArg (fun n => n.testBit i) h0
    simp only [Nat.testBit_and, Nat.zero_testBit] at h1 h2 h3
    cases ha : p.testBit i <;> cases hb : q.testBit i <;> cases hc : y.testBit i <;> simp_all
  rw [pop_bits p, pop_bits q, pop_bits y]
  have k0 := key 0
  have k1 := key 1
  have k2 := key 2
  have k3 := key 3
  have k4 := key 4
  have k5 := key 5
  have k6 := key 6
  have k7 := key 7
  omega
theorem sub_or {p x z : Nat} (h : p &&& x = p) : p &&& (x ||| z) = p := by
  apply Nat.eq_of_testBit_eq
  intro i
  have h1 := congrArg (fun n => n.testBit i) h
  simp only [Nat.testBit_and, Nat.testBit_or] at h1 ⊢
  cases ha : p.testBit i <;> cases hb : x.testBit i <;> simp_all
def chp (b k : Nat) : Bool := decide (pop8 (b ||| 2 ^ k) ≤ pop8 b + 1)
theorem chp_all : ((List.range 256).all fun b => (List.range 8).all fun k => chp b k) = true := by decide +kernel
theorem pop_or {b k : Nat} (hb : b < 256) (hk : k < 8) : pop8 (b ||| 2 ^ k) ≤ pop8 b + 1 := by
  have h1 := List.all_eq_true.1 chp_all b (List.mem_range.2 hb)
  exact of_decide_eq_true (List.all_eq_true.1 h1 k (List.mem_range.2 hk))
/-- two majorities have one together -/
theorem meet {p q x y : Nat} (hp : p &&& y = p) (hq : q &&& y = q) (hpop : pop8 y ≤ pop8 x + 1) (h1 : pop8 x / 2 + 1 ≤ pop8 p) (h2 : pop8 y / 2 + 1 ≤ pop8 q) : p &&& q ≠ 0 := fun h => by
  have := pop_apart hp hq h
  omega
end Go.Proofs.Ytgoiidpcdifojaa
