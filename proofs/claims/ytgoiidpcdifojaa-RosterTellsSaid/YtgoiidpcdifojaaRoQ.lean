/- the statements' own right of chapter 14 -/
import Derived.Test.YtgoiidpcdifojaaRoP
namespace Go.Proofs.Ytgoiidpcdifojaa
open Go.RowKit
set_option maxHeartbeats 2000000 in
set_option maxRecDepth 100000 in
theorem rright_any (v : Int) (p : Pt) (w : World) (hp : p.In w w.heap.size) :
    Calls Try.prog 48 #[LV v p] w fun e w' => e = .returned (.bool (rightB v p.l)) ∧ Below w.heap.size w w' := by
  obtain ⟨ad, cap, l⟩ := p
  unfold LV Pt.V
  simp only
  have hr := hp.read
  simp only at hr
  clear hp
  have bw : Below w.heap.size w (w.alloc (.cells #[.int .u64 v, .slice ad l.length cap] 45)) := (Below.refl _ _).alloc (Nat.le_refl _) _
  obtain ⟨n, hn⟩ : ∃ n, n = l.length := ⟨_, rfl⟩
  have HN := Lib.hid hn
  rw [← hn] at hr bw ⊢
  by_cases v0 : v < 1
  · rw [right_v0 v0]
    clear hn hr
    go_enter Try.func48, Try.ntmps48
    go_wp2
    go_ret
    exact ⟨rfl, bw⟩
  by_cases v1 : 1099511627776 < v
  · rw [right_v1 v1]
    clear hn hr
    go_enter Try.func48, Try.ntmps48
    go_wp2
    go_ret
    exact ⟨rfl, bw⟩
  by_cases n0 : n < 1
  · rw [right_n0 (by omega)]
    have n0' : (n : Int) < 1 := by omega
    have v0' : 1 ≤ v := by omega
    have v1' : v ≤ 1099511627776 := by omega
    clear hn hr
    go_enter Try.func48, Try.ntmps48
    go_wp2
    go_ret
    exact ⟨rfl, bw⟩
  by_cases n1 : 8 < n
  · rw [right_n1 (by omega)]
    have n0' : 1 ≤ (n : Int) := by omega
    have n1' : 8 < (n : Int) := by omega
    have v0' : 1 ≤ v := by omega
    have v1' : v ≤ 1099511627776 := by omega
    clear hn hr
    go_enter Try.func48, Try.ntmps48
    go_wp2
    go_ret
    exact ⟨rfl, bw⟩
  obtain ⟨a, o, rfl, hlt, hc⟩ := hr (by omega)
  have n0' : 1 ≤ (n : Int) := by omega
  have n1' : (n : Int) ≤ 8 := by omega
  have v0' : 1 ≤ v := by omega
  have v1' : v ≤ 1099511627776 := by omega
  have HC : Hid (∀ i, i < n → (w.alloc (.cells #[.int .u64 v, .slice (some ⟨a, o, none⟩) n cap] 45)).cell? ⟨a, o + i, none⟩ = some (.int .i64 (l.getD i 0))) := Lib.hid fun i hi =>
    (Below.cell (p := ⟨a, o + i, none⟩) bw hlt).trans (hc i hi)
  have BK0 := Lib.hid (Bk.new (w := w) rfl 45 #[.int .u64 v, .slice (some ⟨a, o, none⟩) n cap])
  have C1 := Lib.hid (show (w.alloc (.cells #[.int .u64 v, .slice (some ⟨a, o, none⟩) n cap] 45)).cell? ⟨w.heap.size, 1, none⟩ = some (.slice (some ⟨a, o, none⟩) n cap) from (Bk.new (w := w) rfl 45 #[.int .u64 v, .slice (some ⟨a, o, none⟩) n cap]).cell 1)
  clear hr hc hn
  go_enter Try.func48, Try.ntmps48
  go_wp2
  generalize hw1 : w.alloc (.cells #[.int .u64 v, .slice (some ⟨a, o, none⟩) n cap] 45) = w1 at *
  have c1 := C1.out
  have BK1 := Lib.hid BK0.out
  clear hw1 C1
  have HW := Lib.hid (show w.heap.size < w1.heap.size by have := Bk.lt BK1.out; exact this)
  have HLT := Lib.hid (show a < w1.heap.size from Nat.lt_of_lt_of_le hlt bw.size)
  have CC1 := Lib.hid c1
  clear c1
  go_loopw [3] (fun i wr => ∃ k : Nat, k ≤ n ∧ i = .int .i64 k ∧ Hid (∀ j, j < k → okAt l j) ∧ Ex w1 wr) (fun i _ => n - (intOf i).toNat)
  case atStart => exact ⟨0, by omega, rfl, Lib.hid fun j hj => by omega, Ex.refl _⟩
  case round =>
    obtain ⟨k, hk, rfl, ok, xr⟩ := hrel
    have bwr : Below w.heap.size w wr := Below.trans bw (xr.mono bw.size)
    have c1 : wr.cell? ⟨w.heap.size, 1, none⟩ = some (.slice (some ⟨a, o, none⟩) n cap) := (Below.cell (p := ⟨w.heap.size, 1, none⟩) xr HW.out).trans CC1.out
    by_cases hlt2 : k < n
    · have q0 : (0 : Int) ≤ (k : Int) := by omega
      have q1 : (k : Int) < (n : Int) := by omega
      have cx := (Below.cell (p := ⟨a, o + k, none⟩) xr HLT.out).trans (HC.out k hlt2)
      obtain ⟨x, hx⟩ : ∃ x, x = l.getD k 0 := ⟨_, rfl⟩
      rw [← hx] at cx
      have HX := Lib.hid hx
      clear hx
      by_cases x0 : x < 0
      · have R := Lib.hid (show rightB v l = false from right_at k (by rw [← HN.out]; exact hlt2) (fun h => by have := h.1; rw [← HX.out] at this; omega))
        have d0 : decide (x < 0) = true := decide_eq_true x0
        go_wp2
        go_quiet (fail)
        go_wp2
        go_ret
        exact ⟨ret_eq (congrArg Value.bool R.out.symm), ⟨bwr.os, bwr.tape, bwr.output, bwr.size, bwr.block⟩⟩
      have d0 : decide (x < 0) = false := decide_eq_false x0
      have x0' : 0 ≤ x := by omega
      by_cases x1 : 8 ≤ x
      · have R := Lib.hid (show rightB v l = false from right_at k (by rw [← HN.out]; exact hlt2) (fun h => by have := h.2.1; rw [← HX.out] at this; omega))
        have d1 : decide (8 ≤ x) = true := decide_eq_true x1
        go_wp2
        go_quiet (fail)
        go_wp2
        go_ret
        exact ⟨ret_eq (congrArg Value.bool R.out.symm), ⟨bwr.os, bwr.tape, bwr.output, bwr.size, bwr.block⟩⟩
      have d1 : decide (8 ≤ x) = false := decide_eq_false x1
      have x1' : x < 8 := by omega
      by_cases k0 : k = 0
      · have ok' : Hid (∀ j, j < k + 1 → okAt l j) := Lib.hid fun j hj => by
          obtain rfl : j = k := by omega
          exact ⟨by rw [← HX.out]; exact x0', by rw [← HX.out]; exact x1', fun h => by omega⟩
        have k0' : (k : Int) ≤ 0 := by omega
        have d2 : decide (0 < k) = false := decide_eq_false (by omega)
        have d3 : decide (0 < (k : Int)) = false := decide_eq_false (by omega)
        clear k0
        go_wp2
        go_quiet (fail)
        go_wp2
        go_roundw
        case rel => exact ⟨k + 1, by omega, by go_num, ok', ⟨xr.os, xr.tape, xr.output, xr.size, xr.block⟩⟩
        case measure => simp [intOf]; omega
      have k0' : 0 < (k : Int) := by omega
      have d2 : decide (0 < k) = true := decide_eq_true (by omega)
      have d3 : decide (0 < (k : Int)) = true := decide_eq_true k0'
      have cy := (Below.cell (p := ⟨a, o + (k - 1), none⟩) xr HLT.out).trans (HC.out (k - 1) (by omega))
      obtain ⟨y, hy⟩ : ∃ x, x = l.getD (k - 1) 0 := ⟨_, rfl⟩
      rw [← hy] at cy
      have HY := Lib.hid hy
      have i0 : (0 : Int) ≤ (k : Int) - 1 := by omega
      have i1 : (k : Int) - 1 < (n : Int) := by omega
      have i2 : (1 : Int) ≤ (k : Int) := by omega
      have e0 : IntKind.i64.wrap ((k : Int) - 1) = (k : Int) - 1 := by rw [IntKind.wrap_i64]; omega
      have e1 : ((k : Int) - 1).toNat = k - 1 := by omega
      have DC := Lib.hid (show y < x ∨ x ≤ y by omega)
      clear hy k0
      rcases DC.out with xy | xy
      · have ok' : Hid (∀ j, j < k + 1 → okAt l j) := Lib.hid fun j hj => by
          by_cases e : j = k
          · subst e
            exact ⟨by rw [← HX.out]; exact x0', by rw [← HX.out]; exact x1', fun h => by rw [← HX.out, ← HY.out]; omega⟩
          · exact ok.out j (by omega)
        have d4 : decide (x ≤ y) = false := decide_eq_false (by omega)
        go_wp2
        go_quiet (fail)
        clear e0 e1
        go_wp2
        go_roundw
        case rel => exact ⟨k + 1, by omega, by go_num, ok', ⟨xr.os, xr.tape, xr.output, xr.size, xr.block⟩⟩
        case measure => simp [intOf]; omega
      · have R := Lib.hid (show rightB v l = false from right_at k (by rw [← HN.out]; exact hlt2) (fun h => by have := h.2.2 (by omega); rw [← HX.out, ← HY.out] at this; omega))
        have d4 : decide (x ≤ y) = true := decide_eq_true xy
        go_wp2
        go_quiet (fail)
        go_wp2
        go_ret
        exact ⟨ret_eq (congrArg Value.bool R.out.symm), ⟨bwr.os, bwr.tape, bwr.output, bwr.size, bwr.block⟩⟩
    · obtain rfl : k = n := by omega
      have R := Lib.hid (show rightB v l = true from right_is (l := l) v0' v1' (by rw [← HN.out]; omega) (by rw [← HN.out]; omega) (fun i hi => ok.out i (by rw [HN.out]; exact hi)))
      go_wp2
      go_ret
      exact ⟨ret_eq (congrArg Value.bool R.out.symm), bwr⟩
end Go.Proofs.Ytgoiidpcdifojaa
