/- roster.Right, slices.Index, Contains, roster.Has, Majority -/
import Derived.Test.YtgoiidpcdifojaaRoA
namespace Go.Proofs.Ytgoiidpcdifojaa
open Go.RowKit
theorem ret_eq {a b : Value} (h : a = b) : Ending.returned a = Ending.returned b := by rw [h]
def LV (v : Int) (p : Pt) : Value := .agg #[.int .u64 v, p.V]
def okAt (l : List Int) (i : Nat) : Prop := 0 ≤ l.getD i 0 ∧ l.getD i 0 < 8 ∧ (0 < i → l.getD (i - 1) 0 < l.getD i 0)
instance (l : List Int) (i : Nat) : Decidable (okAt l i) := inferInstanceAs (Decidable (_ ∧ _ ∧ _))
def goodL (l : List Int) : Prop := ∀ i, i < l.length → okAt l i
instance (l : List Int) : Decidable (goodL l) := inferInstanceAs (Decidable (∀ i, i < l.length → okAt l i))
def rightB (v : Int) (l : List Int) : Bool := decide (1 ≤ v) && (decide (v ≤ 1099511627776) && (decide (1 ≤ l.length) && (decide (l.length ≤ 8) && decide (goodL l))))
theorem right_v0 {v : Int} {l : List Int} (h : v < 1) : rightB v l = false := by
  unfold rightB; have : decide (1 ≤ v) = false := decide_eq_false (by omega)
  rw [this]; rfl
theorem right_v1 {v : Int} {l : List Int} (h : 1099511627776 < v) : rightB v l = false := by
  unfold rightB; have : decide (v ≤ 1099511627776) = false := decide_eq_false (by omega)
  rw [this]; simp
theorem right_n0 {v : Int} {l : List Int} (h : l.length < 1) : rightB v l = false := by
  unfold rightB; have : decide (1 ≤ l.length) = false := decide_eq_false (by omega)
  rw [this]; simp
theorem right_n1 {v : Int} {l : List Int} (h : 8 < l.length) : rightB v l = false := by
  unfold rightB; have : decide (l.length ≤ 8) = false := decide_eq_false (by omega)
  rw [this]; simp
theorem right_at {v : Int} {l : List Int} (i : Nat) (hi : i < l.length) (h : ¬ okAt l i) : rightB v l = false := by
  unfold rightB; have : decide (goodL l) = false := by simp; exact fun hg => h (hg i hi)
  rw [this]; simp
theorem right_is {v : Int} {l : List Int} (h0 : 1 ≤ v) (h1 : v ≤ 1099511627776) (h2 : 1 ≤ l.length) (h3 : l.length ≤ 8) (h4 : goodL l) : rightB v l = true := by
  unfold rightB; simp [h0, h1, h3, h4]; omega
set_option maxHeartbeats 2000000 in
set_option maxRecDepth 100000 in
theorem right_any (v : Int) (p : Pt) (w : World) (hp : p.In w w.heap.size) :
    Calls Try.prog 49 #[LV v p] w fun e w' => e = .returned (.bool (rightB v p.l)) ∧ Below w.heap.size w w' := by
  obtain ⟨ad, cap, l⟩ := p
  unfold LV Pt.V
  simp only
  have hr := hp.read
  simp only at hr
  clear hp
  have bw : Below w.heap.size w (w.alloc (.cells #[.int .u64 v, .slice ad l.length cap] 45)) := (Below.refl _ _).alloc (Nat.le_refl _) _
  obtain ⟨n, hn⟩ : ∃ n, n = l.length := ⟨_, rfl⟩
  have HN := Lib.hid hn
  rw [← hn] at hr bw ⊢
  by_cases v0 : v < 1
  · rw [right_v0 v0]
    clear hn hr
    go_enter Try.func49, Try.ntmps49
    go_wp2
    go_ret
    exact ⟨rfl, bw⟩
  by_cases v1 : 1099511627776 < v
  · rw [right_v1 v1]
    clear hn hr
    go_enter Try.func49, Try.ntmps49
    go_wp2
    go_ret
    exact ⟨rfl, bw⟩
  by_cases n0 : n < 1
  · rw [right_n0 (by omega)]
    have n0' : (n : Int) < 1 := by omega
    have v0' : 1 ≤ v := by omega
    have v1' : v ≤ 1099511627776 := by omega
    clear hn hr
    go_enter Try.func49, Try.ntmps49
    go_wp2
    go_ret
    exact ⟨rfl, bw⟩
  by_cases n1 : 8 < n
  · rw [right_n1 (by omega)]
    have n0' : 1 ≤ (n : Int) := by omega
    have n1' : 8 < (n : Int) := by omega
    have v0' : 1 ≤ v := by omega
    have v1' : v ≤ 1099511627776 := by omega
    clear hn hr
    go_enter Try.func49, Try.ntmps49
    go_wp2
    go_ret
    exact ⟨rfl, bw⟩
  obtain ⟨a, o, rfl, hlt, hc⟩ := hr (by omega)
  have n0' : 1 ≤ (n : Int) := by omega
  have n1' : (n : Int) ≤ 8 := by omega
  have v0' : 1 ≤ v := by omega
  have v1' : v ≤ 1099511627776 := by omega
  have HC : Hid (∀ i, i < n → (w.alloc (.cells #[.int .u64 v, .slice (some ⟨a, o, none⟩) n cap] 45)).cell? ⟨a, o + i, none⟩ = some (.int .i64 (l.getD i 0))) := Lib.hid fun i hi =>
    (Below.cell (p := ⟨a, o + i, none⟩) bw hlt).trans (hc i hi)
  have C1 := Lib.hid (show (w.alloc (.cells #[.int .u64 v, .slice (some ⟨a, o, none⟩) n cap] 45)).cell? ⟨w.heap.size, 1, none⟩ = some (.slice (some ⟨a, o, none⟩) n cap) from (Bk.new (w := w) rfl 45 #[.int .u64 v, .slice (some ⟨a, o, none⟩) n cap]).cell 1)
  clear hr hc hn
  go_enter Try.func49, Try.ntmps49
  go_wp2
  generalize hw1 : w.alloc (.cells #[.int .u64 v, .slice (some ⟨a, o, none⟩) n cap] 45) = w1 at *
  have c1 := C1.out
  clear hw1 C1
  go_loop [28] (fun i => ∃ k : Nat, k ≤ n ∧ i = .int .i64 k ∧ Hid (∀ j, j < k → okAt l j)) (fun i => n - (intOf i).toNat)
  case atStart => exact ⟨0, by omega, rfl, Lib.hid fun j hj => by omega⟩
  case round =>
    obtain ⟨k, hk, rfl, ok⟩ := hrel
    by_cases hlt2 : k < n
    · have q0 : (0 : Int) ≤ (k : Int) := by omega
      have q1 : (k : Int) < (n : Int) := by omega
      have cx := HC.out k hlt2
      have HX := Lib.hid (show l.getD k 0 = l.getD k 0 from rfl)
      obtain ⟨x, hx⟩ : ∃ x, x = l.getD k 0 := ⟨_, rfl⟩
      rw [← hx] at cx
      have HX := Lib.hid hx
      clear hx
      by_cases x0 : x < 0
      · have R := Lib.hid (show rightB v l = false from right_at k (by rw [← HN.out]; exact hlt2) (fun h => by have := h.1; rw [← HX.out] at this; omega))
        go_wp2
        go_ret
        exact ⟨ret_eq (congrArg Value.bool R.out.symm), bw⟩
      by_cases x1 : 8 ≤ x
      · have R := Lib.hid (show rightB v l = false from right_at k (by rw [← HN.out]; exact hlt2) (fun h => by have := h.2.1; rw [← HX.out] at this; omega))
        have x0' : 0 ≤ x := by omega
        go_wp2
        go_ret
        exact ⟨ret_eq (congrArg Value.bool R.out.symm), bw⟩
      have x0' : 0 ≤ x := by omega
      have x1' : x < 8 := by omega
      by_cases k0 : k = 0
      · have ok' : Hid (∀ j, j < k + 1 → okAt l j) := Lib.hid fun j hj => by
          obtain rfl : j = k := by omega
          exact ⟨by rw [← HX.out]; exact x0', by rw [← HX.out]; exact x1', fun h => by omega⟩
        have k0' : (k : Int) ≤ 0 := by omega
        clear k0
        go_wp2
        go_round
        case rel => exact ⟨k + 1, by omega, by go_num, ok'⟩
        case measure => simp [intOf]; omega
      have k0' : 0 < (k : Int) := by omega
      have cy := HC.out (k - 1) (by omega)
      obtain ⟨y, hy⟩ : ∃ x, x = l.getD (k - 1) 0 := ⟨_, rfl⟩
      rw [← hy] at cy
      have HY := Lib.hid hy
      have e1 : ((k : Int) - 1).toNat = k - 1 := by omega
      have i0 : (0 : Int) ≤ (k : Int) - 1 := by omega
      have i1 : (k : Int) - 1 < (n : Int) := by omega
      have i2 : (1 : Int) ≤ (k : Int) := by omega
      clear hy k0
      by_cases xy : x ≤ y
      · have R := Lib.hid (show rightB v l = false from right_at k (by rw [← HN.out]; exact hlt2) (fun h => by have := h.2.2 (by omega); rw [← HX.out, ← HY.out] at this; omega))
        go_wp2
        go_ret
        exact ⟨ret_eq (congrArg Value.bool R.out.symm), bw⟩
      · have ok' : Hid (∀ j, j < k + 1 → okAt l j) := Lib.hid fun j hj => by
          by_cases e : j = k
          · subst e
            exact ⟨by rw [← HX.out]; exact x0', by rw [← HX.out]; exact x1', fun h => by rw [← HX.out, ← HY.out]; omega⟩
          · exact ok.out j (by omega)
        have xy' : y < x := by omega
        go_wp2
        go_round
        case rel => exact ⟨k + 1, by omega, by go_num, ok'⟩
        case measure => simp [intOf]; omega
    · obtain rfl : k = n := by omega
      have R := Lib.hid (show rightB v l = true from right_is (l := l) v0' v1' (by rw [← HN.out]; omega) (by rw [← HN.out]; omega) (fun i hi => ok.out i (by rw [HN.out]; exact hi)))
      go_wp2
      go_ret
      exact ⟨ret_eq (congrArg Value.bool R.out.symm), bw⟩
end Go.Proofs.Ytgoiidpcdifojaa
