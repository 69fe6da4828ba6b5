/- same of chapter 14's statements: of a list that is wrong, or that a number tells -/
import Derived.Test.YtgoiidpcdifojaaRsA
import Derived.Test.YtgoiidpcdifojaaRsB
import Derived.Test.YtgoiidpcdifojaaRsC
import Derived.Test.YtgoiidpcdifojaaRsD
import Derived.Test.YtgoiidpcdifojaaRsE
import Derived.Test.YtgoiidpcdifojaaRsF
import Derived.Test.YtgoiidpcdifojaaRsG
import Derived.Test.YtgoiidpcdifojaaRsH
namespace Go.Proofs.Ytgoiidpcdifojaa
open Go.RowKit
theorem same14 (v kk : Int) (p : Pt) (w : World) (hp : p.In w w.heap.size) (hL : p.l.length ≤ 9223372036854775807) (hl : rightB v p.l = true → ∃ b, b < 256 ∧ p.l = mem8 b 8) :
    Calls Try.prog 24 #[LV v p, .int .i64 kk] w fun e w' => e = .returned (.bool true) ∧ Below w.heap.size w w' := by
  cases hr : rightB v p.l
  · exact same_wrong v kk p w hp hL [] [] hr (fit_wrong hr) (by simp) (by simp) rfl rfl
  · obtain ⟨b, hb, hml⟩ := hl hr
    obtain ⟨v1, v2, n1, n8, _⟩ := right_len hr
    have b0 : b ≠ 0 := by
      rintro rfl
      rw [hml] at n1
      exact absurd n1 (by decide)
    by_cases k0 : kk < 0
    · exact same_neg v kk p w hp hL [] [] hr (fit_out hr (.inl k0)) (by simp) (by simp) rfl rfl k0
    by_cases k8 : 8 ≤ kk
    · exact same_big v kk p w hp hL [] [] hr (fit_out hr (.inr k8)) (by simp) (by simp) rfl rfl k8
    obtain ⟨k, rfl⟩ := Int.eq_ofNat_of_zero_le (show 0 ≤ kk by omega)
    have hk : k < 8 := by omega
    obtain ⟨f1, f2, f3⟩ := chf_is hb hk b0
    have hh : hasB v p.l k = decide (b / 2 ^ k % 2 = 1) := by
      rw [← f1, hml]; unfold hasB; rw [right_ver v1 v2]
    rcases Nat.mod_two_eq_zero_or_one (b / 2 ^ k) with hbt | hbt
    · have h0 : hasB v p.l k = false := by rw [hh]; exact decide_eq_false (by omega)
      obtain ⟨g1, g2⟩ := f3 (by omega)
      by_cases hv : v < 1099511627776
      · exact same_new v b k p w hp hL (mem8 (b ||| 2 ^ k) 8) [] hr (fit_new (by omega) hr h0 (by rw [hml]; exact g1) (by rw [right_ver (by omega) (by omega)]; exact g2)) (mem8_len _ 8) (by simp) rfl hb hk hml hbt hv rfl
      · exact same_new_last v b k p w hp hL [] [] hr (fit_new_last hr h0 (right_v1 (by omega))) (by simp) (by simp) rfl rfl hb hk hml hbt (by omega)
    · have h1 : hasB v p.l k = true := by rw [hh]; exact decide_eq_true hbt
      obtain ⟨g1, g2, g3⟩ := f2 hbt
      rw [← hml] at g1 g2
      by_cases hn : 1 < p.l.length
      · by_cases hv : v < 1099511627776
        · exact same_in v b k p w hp hL [] (mem8 (b - 2 ^ k) 8) hr (fit_in (by omega) h1 g1 (by rw [right_ver (by omega) (by omega), g2]; exact decide_eq_true hn)) (by simp) (mem8_len _ 8) rfl hb hk hml hbt hn hv rfl g3
        · exact same_in_last v b k p w hp hL [] [] hr (fit_in_last h1 (right_v1 (by omega))) (by simp) (by simp) rfl rfl hb hk hml hbt hn (by omega)
      · refine same_in_one v b k p w hp hL [] [] hr (fit_in_last h1 ?_) (by simp) (by simp) rfl rfl hb hk hml hbt (by omega)
        by_cases hv : v < 1099511627776
        · rw [right_ver (by omega) (by omega), g1, g2]; exact decide_eq_false hn
        · exact right_v1 (by omega)
end Go.Proofs.Ytgoiidpcdifojaa
