/- walks: BlendNumber -/
import Derived.Test.YtkneeocicbadjaaBlK
import Derived.Test.YtkneeocicbadjaaKnA
import Derived.Laws.BitsAllLaws
namespace Go.Proofs.Ytkneeocicbadjaa
open Go.RowKit
def beV : List UInt8 → Nat
  | [] => 0
  | x :: l => x.toNat * 256 ^ l.length + beV l
theorem beV_lt : ∀ l, beV l < 256 ^ l.length
  | [] => by simp [beV]
  | x :: l => by
    have h := beV_lt l
    have hx := x.toNat_lt
    have h2 : (x.toNat + 1) * 256 ^ l.length ≤ 256 * 256 ^ l.length := Nat.mul_le_mul_right _ (by omega)
    have h3 : (x.toNat + 1) * 256 ^ l.length = x.toNat * 256 ^ l.length + 256 ^ l.length := by rw [Nat.add_mul, Nat.one_mul]
    simp only [beV, List.length_cons, Nat.pow_succ]
    omega
theorem beV_less : ∀ l m : List UInt8, l.length = m.length → (Op.bytesLess l m = true ↔ beV l < beV m)
  | [], [], _ => by simp [Op.bytesLess, beV]
  | [], _ :: _, h => by simp at h
  | _ :: _, [], h => by simp at h
  | x :: l, y :: m, h => by
    have hl : l.length = m.length := by simpa using h
    have ih := beV_less l m hl
    have h1 := beV_lt l
    have h2 := beV_lt m
    simp only [Op.bytesLess, beV, Bool.or_eq_true, Bool.and_eq_true, decide_eq_true_eq, beq_iff_eq, ih, UInt8.lt_iff_toNat_lt, ← UInt8.toNat_inj]
    rw [hl] at h1 ⊢
    generalize 256 ^ m.length = k at h1 h2 ⊢
    generalize beV l = p at h1 ⊢
    generalize beV m = q at h2 ⊢
    rcases Nat.lt_trichotomy x.toNat y.toNat with hxy | hxy | hxy
    · have h3 : (x.toNat + 1) * k ≤ y.toNat * k := Nat.mul_le_mul_right _ (by omega)
      rw [Nat.add_mul, Nat.one_mul] at h3
      constructor
      · intro _; omega
      · intro _; exact .inl hxy
    · rw [hxy]
      constructor
      · rintro (h5 | ⟨_, h5⟩) <;> omega
      · intro h5; exact .inr ⟨rfl, by omega⟩
    · have h3 : (y.toNat + 1) * k ≤ x.toNat * k := Nat.mul_le_mul_right _ (by omega)
      rw [Nat.add_mul, Nat.one_mul] at h3
      constructor
      · rintro (h5 | ⟨h5, _⟩) <;> omega
      · intro h5; omega
theorem beV_num (n : Int) (h0 : 0 ≤ n) (h1 : n < 18446744073709551616) : (beV (numL n) : Int) = n := by
  simp only [numL, beV, List.length_cons, List.length_nil, Int.natCast_add, Int.natCast_mul, by8_int]
  simp only [Nat.zero_add, Nat.reduceAdd, Nat.reducePow, Int.natCast_zero, Int.cast_ofNat_Int]
  omega
theorem num_less (a b : Int) (ha : 0 ≤ a ∧ a < 18446744073709551616) (hb : 0 ≤ b ∧ b < 18446744073709551616) : Op.bytesLess (numL a) (numL b) = decide (a < b) := by
  have h := beV_less (numL a) (numL b) rfl
  have h1 := beV_num a ha.1 ha.2
  have h2 := beV_num b hb.1 hb.2
  rw [Bool.eq_iff_iff, h, decide_eq_true_eq]
  omega
theorem num_inj (a b : Int) (ha : 0 ≤ a ∧ a < 18446744073709551616) (hb : 0 ≤ b ∧ b < 18446744073709551616) : decide (numL a = numL b) = decide (a = b) := by
  rw [decide_eq_decide]
  constructor
  · intro h
    have h1 := beV_num a ha.1 ha.2
    have h2 := beV_num b hb.1 hb.2
    rw [h] at h1; omega
  · intro h; rw [h]
theorem u64_join (a b : Int) (ha : 0 ≤ a) (ha' : a < 72057594037927936) (hb : 0 ≤ b) (hb' : b < 256) : bits .or .u64 (a * 256) b = a * 256 + b := by
  rw [u64_or (a * 256) b (by omega) (by omega) (by omega) (by omega)]
  have h := Nat.shiftLeft_add_eq_or_of_lt (i := 8) (b := b.toNat) (by omega) a.toNat
  rw [Nat.shiftLeft_eq] at h
  rw [show (a * 256).toNat = a.toNat * 2 ^ 8 by omega, ← h]
  omega
theorem num_at (n : Int) (i : Nat) (hi : i < 8) : (((numL n).getD i 0).toNat : Int) = n / 256 ^ (7 - i) % 256 := by
  have h : i = 0 ∨ i = 1 ∨ i = 2 ∨ i = 3 ∨ i = 4 ∨ i = 5 ∨ i = 6 ∨ i = 7 := by omega
  rcases h with rfl | rfl | rfl | rfl | rfl | rfl | rfl | rfl
  all_goals first | exact by8_int _ | (rw [Nat.sub_self, Int.pow_zero, Int.ediv_one]; exact by8_int _)
set_option maxHeartbeats 16000000 in
set_option maxRecDepth 100000 in
theorem bnumber_any (n m : Int) (hn0 : 0 ≤ n) (hn1 : n < 18446744073709551616) (hm0 : 0 ≤ m) (hm1 : m < 18446744073709551616) (w : World) :
    Calls Try.prog 7 #[.int .u64 n, .int .u64 m] w fun e w' => e = .returned (.bool true) ∧ Below w.heap.size w w' := by
  go_enter Try.func7, Try.ntmps7
  have NB := Lib.hid (numberP n hn0 hn1)
  have NM := Lib.hid (numberP m hm0 hm1)
  go_wp2_with fail
  refine (NB.out _).mono ?_
  rintro e w1 ⟨p, rfl, hp, hpi, hx1⟩
  go_wp2_with fail
  refine (NM.out _).mono ?_
  rintro e w2 ⟨q, rfl, hq, hqi, hx2⟩
  have hp2 := hpi.ext hx2
  have bw : Below w.heap.size w w2 := Below.trans hx1 (hx2.mono hx1.size)
  obtain ⟨ad, cp, l⟩ := p
  obtain ⟨ae, cq, k⟩ := q
  have hl : l = numL n := hp
  have hk : k = numL m := hq
  subst hl
  subst hk
  have c1 := pt_conv _ _ hp2
  have c2 := pt_conv _ _ hqi
  have LE : Hid (Op.bytesLess (strL (numL n)).toList (strL (numL m)).toList = decide (n < m)) := Lib.hid (by
    unfold strL; rw [Lib.toList_data, Lib.toList_data]; exact num_less n m ⟨hn0, hn1⟩ ⟨hm0, hm1⟩)
  have SM := same_any _ _ w2 hp2 hqi
  have SM := Lib.hid (show Calls Try.prog 34 #[.slice ad 8 cp, .slice ae 8 cq] w2 fun e w' => e = .returned (.bool (decide (n = m))) ∧ w2 = w' by
    have h := SM
    rw [num_inj n m ⟨hn0, hn1⟩ ⟨hm0, hm1⟩] at h
    exact h)
  unfold Pt.V
  simp only [show (numL n).length = 8 from rfl, show (numL m).length = 8 from rfl] at c1 c2 ⊢
  have HP := Lib.hid hp2
  clear hp hq hpi hx1 hx2 NB NM hp2 hqi
  generalize strL (numL n) = s1 at LE c1
  generalize strL (numL m) = s2 at LE c2
  go_wp2_with fail
  refine SM.out.mono ?_
  rintro e w3 ⟨rfl, rfl⟩
  clear c1 c2 LE SM
  obtain ⟨A, o, rfl, hA, hc⟩ := HP.out.read (by show 0 < 8; omega)
  have HC := Lib.hid hc
  clear hc HP hA
  go_wp2_with fail
  · rename_i hbad
    exfalso
    by_cases e : n = m <;> simp [e] at hbad
  go_loop [7, 8] (fun x i => ∃ j : Nat, j ≤ 8 ∧ i = .int .i64 j ∧ x = .int .u64 (n / 256 ^ (8 - j))) (fun _ i => 8 - (intOf i).toNat)
  case atStart => exact ⟨0, by omega, rfl, by congr 1; show 0 = n / 256 ^ 8; omega⟩
  case round =>
    obtain ⟨j, hj, rfl, rfl⟩ := hrel
    by_cases hlt : j < 8
    · have hcell := HC.out j hlt
      obtain ⟨y, hy⟩ : ∃ y, y = n / 256 ^ (8 - j) := ⟨_, rfl⟩
      obtain ⟨z, hz⟩ : ∃ z, z = n / 256 ^ (7 - j) := ⟨_, rfl⟩
      have hat := num_at n j hlt
      rw [← hz] at hat
      simp only [hat] at hcell
      have st : y = z / 256 ∧ 0 ≤ y ∧ y < 72057594037927936 ∧ 0 ≤ z ∧ z < 18446744073709551616 := by
        have h : j = 0 ∨ j = 1 ∨ j = 2 ∨ j = 3 ∨ j = 4 ∨ j = 5 ∨ j = 6 ∨ j = 7 := by omega
        rcases h with rfl | rfl | rfl | rfl | rfl | rfl | rfl | rfl <;> simp at hy hz <;> omega
      obtain ⟨s1, s2, s3, s4, s5⟩ := st
      have J := Lib.hid (u64_join y (z % 256) s2 s3 (by omega) (by omega))
      have JZ := Lib.hid (show y * 256 + z % 256 = z by omega)
      have HZ := Lib.hid hz
      rw [← hy]
      clear hy hz hat
      go_wp2_with fail
      refine ⟨⟨j + 1, by omega, by go_num, ?_⟩, ?_⟩
      · rw [show 8 - (j + 1) = 7 - j by omega, ← HZ.out, ← s1, J.out, JZ.out]
      · simp [intOf]; omega
    · obtain rfl : j = 8 := by omega
      have KN := Lib.hid (known2_any w2)
      go_wp2_with fail
      refine KN.out.mono ?_
      rintro e w3 ⟨rfl, x3⟩
      have b3 : Below w.heap.size w w3 := bw.trans (x3.mono bw.size)
      clear x3 KN
      go_wp2_with fail
      go_ret
      exact ⟨rfl, b3⟩
theorem blendNumber_law (n m : Int) (w : World) (h0 : (Lit.int .u64 n).wf = true) (h1 : (Lit.int .u64 m).wf = true) :
    Calls Try.prog 7 #[.int .u64 n, .int .u64 m] w fun e w' => e = .returned (.bool true) ∧ Below w.heap.size w w' := by
  have r0 : 0 ≤ n ∧ n < 18446744073709551616 := by simp [Lit.wf, IntKind.min, IntKind.max, IntKind.signed, IntKind.bits] at h0; omega
  have r1 : 0 ≤ m ∧ m < 18446744073709551616 := by simp [Lit.wf, IntKind.min, IntKind.max, IntKind.signed, IntKind.bits] at h1; omega
  exact bnumber_any n m r0.1 r0.2 r1.1 r1.2 w
end Go.Proofs.Ytkneeocicbadjaa
