/- slices.BinarySearch, roster.Same -/
import Derived.Test.YtgoiidpcdifojaaRoC
namespace Go.Proofs.Ytgoiidpcdifojaa
open Go.RowKit
theorem nan72 (a : Int) (w : World) : Calls Try.prog 72 #[.int .i64 a] w fun e w' => e = .returned (.bool false) ∧ w = w' := by
  go_enter Try.func72, Try.ntmps72
  go_wp2
  go_ret
  exact ⟨rfl, rfl⟩
theorem nan62 (a : Int) (w : World) : Calls Try.prog 62 #[.int .i64 a] w fun e w' => e = .returned (.bool false) ∧ w = w' := by
  go_enter Try.func62, Try.ntmps62
  go_wp2
  go_ret
  exact ⟨rfl, rfl⟩
theorem less_any (a b : Int) (w : World) : Calls Try.prog 61 #[.int .i64 a, .int .i64 b] w fun e w' => e = .returned (.bool (decide (a < b))) ∧ w = w' := by
  go_enter Try.func61, Try.ntmps61
  go_wp2_with (go_at_call 72; refine (nan72 _ _).mono ?_; rintro e w1 ⟨rfl, rfl⟩)
  go_ret
  exact ⟨rfl, rfl⟩
def BsPost (n : Nat) (l : List Int) (x : Int) (w : World) (e : Ending) (w' : World) : Prop :=
  ∃ (i : Nat) (b : Bool), e = .returned (.tuple #[.int .i64 i, .bool b]) ∧ i ≤ n ∧ (∀ j, j < i → l.getD j 0 < x) ∧ (∀ j, i ≤ j → j < n → x ≤ l.getD j 0) ∧ w = w'
set_option maxHeartbeats 4000000 in
set_option maxRecDepth 100000 in
theorem bsearch_any (p : Pt) (x : Int) (w : World) (hp : p.In w w.heap.size) (h8 : p.l.length ≤ 8) (hs : ∀ i j, i ≤ j → j < p.l.length → p.l.getD i 0 ≤ p.l.getD j 0) : Calls Try.prog 51 #[p.V, .int .i64 x] w (BsPost p.l.length p.l x w) := by
  obtain ⟨ad, cap, l⟩ := p
  unfold Pt.V
  simp only at *
  have hr := hp.read
  simp only at hr
  clear hp
  obtain ⟨n, hn⟩ : ∃ n, n = l.length := ⟨_, rfl⟩
  rw [← hn] at hr hs h8 ⊢
  have HR := Lib.hid hr
  have HS := Lib.hid hs
  clear hr hn hs
  go_enter Try.func51, Try.ntmps51
  go_wp2
  go_loop [7, 8] (fun i j => ∃ a b : Nat, a ≤ b ∧ b ≤ n ∧ i = .int .i64 a ∧ j = .int .i64 b ∧ Hid (∀ q, q < a → l.getD q 0 < x) ∧ Hid (∀ q, b ≤ q → q < n → x ≤ l.getD q 0)) (fun i j => (intOf j - intOf i).toNat)
  case atStart => exact ⟨0, n, by omega, by omega, rfl, rfl, Lib.hid fun j hj => by omega, Lib.hid fun j h1 h2 => by omega⟩
  case round =>
    obtain ⟨a, b, hab, hbn, rfl, rfl, lo, hi⟩ := hrel
    by_cases hlt : a < b
    · obtain ⟨g, o, rfl, hlt1, hc⟩ := HR.out (by omega)
      have m0 : a ≤ (a + b) / 2 := by omega
      have m1 : (a + b) / 2 < b := by omega
      have cx := hc ((a + b) / 2) (by omega)
      obtain ⟨y, hy⟩ : ∃ x, x = l.getD ((a + b) / 2) 0 := ⟨_, rfl⟩
      rw [← hy] at cx
      have HY := Lib.hid hy
      have q0 : (a : Int) < (b : Int) := by omega
      have em : ((a : Int) + (b : Int)) / 2 = (((a + b) / 2 : Nat) : Int) := by omega
      have EM := Lib.hid em
      clear hy hc em
      go_wp2_with fail
      refine (less_any y x _).mono ?_
      rintro e w1 ⟨rfl, rfl⟩
      by_cases yx : y < x
      · have lo' : Hid (∀ q, q < (a + b) / 2 + 1 → l.getD q 0 < x) := Lib.hid fun q hq => by
          have := HS.out q ((a + b) / 2) (by omega) (by omega)
          rw [← HY.out] at this; omega
        go_wp2_with fail
        go_round
        case rel => exact ⟨(a + b) / 2 + 1, b, by omega, by omega, by rw [EM.out]; go_num, rfl, lo', hi⟩
        case measure => rw [EM.out]; simp [intOf]; omega
      · have hi' : Hid (∀ q, (a + b) / 2 ≤ q → q < n → x ≤ l.getD q 0) := Lib.hid fun q h1 h2 => by
          have := HS.out ((a + b) / 2) q h1 h2
          rw [← HY.out] at this; omega
        have yx' : x ≤ y := by omega
        have yd : decide (y < x) = false := by simp; omega
        clear yx
        go_wp2_with fail
        go_round
        case rel => exact ⟨a, (a + b) / 2, by omega, by omega, rfl, by rw [EM.out], lo, hi'⟩
        case measure => rw [EM.out]; simp [intOf]; omega
    · obtain rfl : a = b := by omega
      by_cases hn : a < n
      · obtain ⟨g, o, rfl, hlt1, hc⟩ := HR.out (by omega)
        have cx := hc a hn
        obtain ⟨y, hy⟩ : ∃ x, x = l.getD a 0 := ⟨_, rfl⟩
        rw [← hy] at cx
        have q0 : (a : Int) < (n : Int) := by omega
        have q1 : (0 : Int) ≤ (a : Int) := by omega
        clear hy hc
        by_cases yx : y = x
        · have e1 : (y == x) = true := by simpa using yx
          clear yx
          go_wp2_with fail
          go_ret2
          exact ⟨a, _, rfl, hbn, lo.out, hi.out, rfl⟩
        · have e1 : (y == x) = false := by simpa using yx
          clear yx
          go_wp2_with fail
          refine (nan62 y _).mono ?_
          rintro e w1 ⟨rfl, rfl⟩
          go_wp2_with fail
          go_ret2
          exact ⟨a, _, rfl, hbn, lo.out, hi.out, rfl⟩
      · obtain rfl : a = n := by omega
        go_wp2_with fail
        go_ret2
        exact ⟨a, _, rfl, hbn, lo.out, hi.out, rfl⟩
def sameB (v : Int) (l : List Int) (u : Int) (m : List Int) : Bool := (v == u) && decide (l = m)
set_option maxHeartbeats 2000000 in
set_option maxRecDepth 100000 in
theorem rsame_any (v u : Int) (p q : Pt) (w : World) (hp : p.In w w.heap.size) (hq : q.In w w.heap.size) (hL : p.l.length ≤ 9223372036854775807) (hL2 : q.l.length ≤ 9223372036854775807) :
    Calls Try.prog 29 #[LV v p, LV u q] w fun e w' => e = .returned (.bool (sameB v p.l u q.l)) ∧ Below w.heap.size w w' := by
  have I := Lib.hid (fun W (h : Ex w W) => equal_any p q W ((hp.keep h).more h.size) ((hq.keep h).more h.size) hL hL2)
  unfold sameB
  generalize decide (p.l = q.l) = b at *
  unfold LV at *
  generalize p.V = pv at *
  generalize q.V = qv at *
  have bw : Ex w ((w.alloc (.cells #[.int .u64 v, pv] 45)).alloc (.cells #[.int .u64 u, qv] 45)) := ((Below.refl _ _).alloc (Nat.le_refl _) _).alloc (by simp) _
  clear hp hq hL hL2
  by_cases e : v = u
  · have e1 : (v == u) = true := by simpa using e
    rw [e1]
    clear e
    go_enter Try.func29, Try.ntmps29
    go_wp2_with fail
    refine (I.out _ bw).mono ?_
    rintro e w1 ⟨rfl, x1⟩
    have bw1 : Ex w w1 := Ex.trans bw x1
    go_wp2_with fail
    go_ret
    exact ⟨rfl, bw1⟩
  · have e1 : (v == u) = false := by simpa using e
    rw [e1]
    clear e
    go_enter Try.func29, Try.ntmps29
    go_wp2_with fail
    go_ret
    exact ⟨rfl, bw⟩
end Go.Proofs.Ytgoiidpcdifojaa
