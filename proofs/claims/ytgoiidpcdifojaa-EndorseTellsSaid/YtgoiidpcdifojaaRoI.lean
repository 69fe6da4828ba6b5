/- set and count of chapter 14's statements -/
import Derived.Test.YtgoiidpcdifojaaRoH
namespace Go.Proofs.Ytgoiidpcdifojaa
open Go.RowKit
def setN (l : List Int) : Nat := l.foldl (fun n m => n ||| 2 ^ m.toNat) 0
theorem setN_snoc (l : List Int) (m : Int) : setN (l ++ [m]) = setN l ||| 2 ^ m.toNat := by simp [setN]
theorem and7 (m : Int) (h0 : 0 ≤ m) (h1 : m < 8) : bits .and .i64 m 7 = m := by
  have h := bits_mask .i64 62 (by decide) (fun n h0 h1 => by rw [IntKind.wrap_i64]; omega) 3 (by decide) m h0 (by omega)
  rw [show (7 : Int) = 2 ^ 3 - 1 by decide, h]
  omega
theorem or_nat (a b : Nat) (ha : a < 256) (hb : b < 256) : bits .or .i64 (a : Int) (b : Int) = ((a ||| b : Nat) : Int) :=
  (bits_nat .i64 62 (by decide) (fun n h0 h1 => by rw [IntKind.wrap_i64]; omega) a b (by omega) (by omega)).2
theorem setN_lt (l : List Int) : ∀ (h : ∀ m ∈ l, 0 ≤ m ∧ m < 8), setN l < 256 := by
  unfold setN
  suffices ∀ (l : List Int) (n : Nat), n < 256 → (∀ m ∈ l, 0 ≤ m ∧ m < 8) → l.foldl (fun n m => n ||| 2 ^ m.toNat) n < 256 from this l 0 (by decide)
  intro l
  induction l with
  | nil => intro n hn _; exact hn
  | cons m r ih =>
    intro n hn h
    refine ih _ ?_ (fun q hq => h q (List.mem_cons_of_mem _ hq))
    have := h m List.mem_cons_self
    have h2 : 2 ^ m.toNat < 2 ^ 8 := Nat.pow_lt_pow_right (by decide) (by omega)
    exact Nat.or_lt_two_pow (n := 8) hn h2
theorem good_mem {l : List Int} (h : goodL l) : ∀ m ∈ l, 0 ≤ m ∧ m < 8 := fun m hm => by
  obtain ⟨i, hi, e⟩ := List.getElem_of_mem hm
  obtain ⟨h1, h2, _⟩ := h i hi
  rw [show l.getD i 0 = m by simp [List.getD, hi, e]] at h1 h2
  exact ⟨h1, h2⟩
set_option maxHeartbeats 4000000 in
set_option maxRecDepth 100000 in
theorem set_any (v : Int) (p : Pt) (w : World) (hp : p.In w w.heap.size) (hg : goodL p.l) (h8 : p.l.length ≤ 8) :
    Calls Try.prog 32 #[LV v p] w fun e w' => e = .returned (.int .i64 (setN p.l)) ∧ Below w.heap.size w w' := by
  obtain ⟨ad, cap, l⟩ := p
  unfold LV Pt.V
  simp only at *
  have hr := hp.read
  simp only at hr
  clear hp
  obtain ⟨n, hn⟩ : ∃ n, n = l.length := ⟨_, rfl⟩
  have HN := Lib.hid hn
  rw [← hn] at hr h8 ⊢
  have bw : Below w.heap.size w (w.alloc (.cells #[.int .u64 v, .slice ad n cap] 45)) := (Below.refl _ _).alloc (Nat.le_refl _) _
  have C1 := Lib.hid (show (w.alloc (.cells #[.int .u64 v, .slice ad n cap] 45)).cell? ⟨w.heap.size, 1, none⟩ = some (.slice ad n cap) from (Bk.new (w := w) rfl 45 #[.int .u64 v, .slice ad n cap]).cell 1)
  have HR := Lib.hid (show 0 < n → ∃ a o, ad = some ⟨a, o, none⟩ ∧ ∀ i, i < n → (w.alloc (.cells #[.int .u64 v, .slice ad n cap] 45)).cell? ⟨a, o + i, none⟩ = some (.int .i64 (l.getD i 0)) from fun h => by
    obtain ⟨a, o, e, ha, hc⟩ := hr h
    exact ⟨a, o, e, fun i hi => (Below.cell (p := ⟨a, o + i, none⟩) bw ha).trans (hc i hi)⟩)
  have HG := Lib.hid hg
  have SL := Lib.hid (fun k => setN_lt (l.take k) (fun m hm => good_mem hg m (List.mem_of_mem_take hm)))
  clear hr hn hg
  go_enter Try.func32, Try.ntmps32
  go_wp2
  generalize hw1 : w.alloc (.cells #[.int .u64 v, .slice ad n cap] 45) = w1 at *
  have c1 := C1.out
  clear hw1 C1
  go_loop [3, 4] (fun t i => ∃ k : Nat, k ≤ n ∧ i = .int .i64 k ∧ t = .int .i64 (setN (l.take k) : Nat)) (fun _ i => n - (intOf i).toNat)
  case atStart => exact ⟨0, by omega, rfl, rfl⟩
  case round =>
    obtain ⟨k, hk, rfl, rfl⟩ := hrel
    by_cases hlt : k < n
    · obtain ⟨a, o, rfl, hc⟩ := HR.out (by omega)
      have q0 : (0 : Int) ≤ (k : Int) := by omega
      have q1 : (k : Int) < (n : Int) := by omega
      have cx := hc k hlt
      have gx := HG.out k (by rw [← HN.out]; exact hlt)
      have tk : l.take (k + 1) = l.take k ++ [l.getD k 0] := by
        rw [List.take_succ_eq_append_getElem (by rw [← HN.out]; exact hlt)]; simp [List.getD, show k < l.length by rw [← HN.out]; exact hlt]
      have sl := SL.out k
      obtain ⟨x, hx⟩ : ∃ x, x = l.getD k 0 := ⟨_, rfl⟩
      have x0 : 0 ≤ x := by rw [hx]; exact gx.1
      have x1 : x < 8 := by rw [hx]; exact gx.2.1
      rw [← hx] at cx tk
      have st : setN (l.take (k + 1)) = setN (l.take k) ||| 2 ^ x.toNat := by rw [tk, setN_snoc]
      obtain ⟨S, hS⟩ : ∃ S, S = setN (l.take k) := ⟨_, rfl⟩
      rw [← hS] at st sl ⊢
      have ST := Lib.hid st
      have a7 := and7 x x0 x1
      have o7 := or_nat S (2 ^ x.toNat) sl (show 2 ^ x.toNat < 2 ^ 8 from Nat.pow_lt_pow_right (by decide) (by omega))
      have O7 := Lib.hid o7
      have W7 := Lib.hid (show wrap64 ((2 : Int) ^ x.toNat) = ((2 ^ x.toNat : Nat) : Int) by
        have h2 : 2 ^ x.toNat < 2 ^ 8 := Nat.pow_lt_pow_right (by decide) (by omega)
        have h3 : ((2 : Int) ^ x.toNat) = ((2 ^ x.toNat : Nat) : Int) := by norm_cast
        rw [h3]
        generalize 2 ^ x.toNat = z at h2
        exact IntWalk.wrap64_in _ ⟨by omega, by omega⟩)
      clear hc gx tk hx hS st o7
      go_wp2
      go_round
      case rel => exact ⟨k + 1, by omega, by go_num, by rw [ST.out, ← O7.out, W7.out]⟩
      case measure => simp [intOf]; omega
    · obtain rfl : k = n := by omega
      have TK := Lib.hid (show l.take k = l by rw [HN.out, List.take_length])
      go_wp2
      go_ret
      exact ⟨ret_eq (by rw [TK.out]; rfl), bw⟩
def pop8 (n : Nat) : Nat := n % 2 + n / 2 % 2 + n / 4 % 2 + n / 8 % 2 + n / 16 % 2 + n / 32 % 2 + n / 64 % 2 + n / 128 % 2
theorem pop_half (n : Nat) (h : n < 256) : pop8 n = n % 2 + pop8 (n / 2) := by unfold pop8; omega
set_option maxHeartbeats 4000000 in
set_option maxRecDepth 100000 in
theorem count_any (n : Nat) (hn : n < 256) (w : World) : Calls Try.prog 33 #[.int .i64 n] w fun e w' => e = .returned (.int .i64 (pop8 n : Nat)) ∧ w = w' := by
  have HN := Lib.hid hn
  clear hn
  go_enter Try.func33, Try.ntmps33
  go_wp2
  go_loop [0, 3] (fun t c => ∃ a q : Nat, a < 256 ∧ q ≤ 300 ∧ t = .int .i64 a ∧ c = .int .i64 q ∧ Hid (q + pop8 a = pop8 n)) (fun t _ => (intOf t).toNat)
  case atStart => exact ⟨n, 0, HN.out, by omega, rfl, rfl, Lib.hid (Nat.zero_add _)⟩
  case round =>
    obtain ⟨a, q, ha, hq, rfl, rfl, hp⟩ := hrel
    by_cases h : 0 < a
    · have h0 : (0 : Int) < (a : Int) := by omega
      have hp' : Hid (q + a % 2 + pop8 (a / 2) = pop8 n) := Lib.hid (by have := hp.out; rw [pop_half a ha] at this; omega)
      have hle : q + a % 2 ≤ 300 := by
        have h1 := hp.out
        have h2 : pop8 n ≤ 8 := by unfold pop8; omega
        have h3 := pop_half a ha
        omega
      go_wp2
      go_round
      case rel => exact ⟨a / 2, q + a % 2, by omega, hle, by go_num, by go_num, hp'⟩
      case measure => simp [intOf]; omega
    · obtain rfl : a = 0 := by omega
      have R := Lib.hid (show q = pop8 n by have := hp.out; simpa [pop8] using this)
      go_wp2
      go_ret
      exact ⟨ret_eq (by rw [R.out]; rfl), rfl⟩
end Go.Proofs.Ytgoiidpcdifojaa
