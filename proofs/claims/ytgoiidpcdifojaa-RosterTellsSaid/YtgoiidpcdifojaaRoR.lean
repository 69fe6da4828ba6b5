/- lists that a number tells: what comes of With and Without -/
import Derived.Test.YtgoiidpcdifojaaRoQ
namespace Go.Proofs.Ytgoiidpcdifojaa
open Go.RowKit
/-- what same of chapter 14 holds a list against: in, x, y -/
structure Fit (v : Int) (l : List Int) (k : Int) (i : Bool) (xv : Int) (xl : List Int) (yv : Int) (yl : List Int) : Prop where
  has : hasB v l k = i
  wb : withB v l k = decide (0 < xv)
  wv : withV v l k = xv
  wl : withL v l k = xl
  lb : lessB v l k = decide (0 < yv)
  lv : lessV v l k = yv
  ll : lessL v l k = yl
theorem fit_wrong {v : Int} {l : List Int} {k : Int} (h : rightB v l = false) : Fit v l k false 0 [] 0 [] := by
  have hh : hasB v l k = false := by unfold hasB; rw [h]; rfl
  have hw : withOk v l k = false := by unfold withOk; rw [h]; rfl
  refine ⟨hh, ?_, ?_, ?_, ?_, ?_, ?_⟩
  · unfold withB; rw [hw]; rfl
  · unfold withV; rw [hw]; rfl
  · unfold withL; rw [hw]; rfl
  · unfold lessB; rw [hh]; rfl
  · unfold lessV; rw [hh]; rfl
  · unfold lessL; rw [hh]; rfl
theorem right_no_mem {u : Int} {m : List Int} {k : Int} (hk : k < 0 ∨ 8 ≤ k) (hm : k ∈ m) : rightB u m = false := by
  cases h : rightB u m
  · rfl
  · have := good_mem (right_len h).2.2.2.2 k hm
    omega
theorem ins_mem (k : Int) (l : List Int) : k ∈ insL k l := by unfold insL; simp
theorem fit_out {v : Int} {l : List Int} {k : Int} (h : rightB v l = true) (hk : k < 0 ∨ 8 ≤ k) : Fit v l k false 0 [] 0 [] := by
  have hn : decide (k ∈ l) = false := decide_eq_false fun hm => by
    have := right_no_mem (u := v) hk hm; rw [h] at this; cases this
  have hh : hasB v l k = false := by unfold hasB; rw [hn]; simp
  have hi := right_no_mem (u := v + 1) hk (ins_mem k l)
  have hw : withOk v l k = true := by unfold withOk; rw [h, hn]; rfl
  refine ⟨hh, ?_, ?_, ?_, ?_, ?_, ?_⟩
  · unfold withB; rw [hw, hi]; rfl
  · unfold withV nextV; rw [hw, hi]; rfl
  · unfold withL nextL; rw [hw, hi]; rfl
  · unfold lessB; rw [hh]; rfl
  · unfold lessV; rw [hh]; rfl
  · unfold lessL; rw [hh]; rfl
theorem fit_in_last {v : Int} {l : List Int} {k : Int} (h : hasB v l k = true) (hd : rightB (v + 1) (delL k l) = false) : Fit v l k true 0 [] 0 [] := by
  have h2 := h
  unfold hasB at h2
  rw [Bool.and_eq_true] at h2
  have hw : withOk v l k = false := by unfold withOk; rw [h2.2]; simp
  refine ⟨h, ?_, ?_, ?_, ?_, ?_, ?_⟩
  · unfold withB; rw [hw]; rfl
  · unfold withV; rw [hw]; rfl
  · unfold withL; rw [hw]; rfl
  · unfold lessB; rw [hd]; simp
  · unfold lessV nextV; rw [hd, h]; rfl
  · unfold lessL nextL; rw [hd, h]; rfl
theorem fit_in {v : Int} {l : List Int} {k : Int} {m : List Int} (hv : 0 ≤ v) (h : hasB v l k = true) (hm : delL k l = m) (hd : rightB (v + 1) m = true) : Fit v l k true 0 [] (v + 1) m := by
  have h2 := h
  unfold hasB at h2
  rw [Bool.and_eq_true] at h2
  have hw : withOk v l k = false := by unfold withOk; rw [h2.2]; simp
  refine ⟨h, ?_, ?_, ?_, ?_, ?_, ?_⟩
  · unfold withB; rw [hw]; rfl
  · unfold withV; rw [hw]; rfl
  · unfold withL; rw [hw]; rfl
  · unfold lessB; rw [hm, hd, h]; simp; omega
  · unfold lessV nextV; rw [hm, hd, h]; rfl
  · unfold lessL nextL; rw [hm, hd, h]; rfl
theorem fit_new {v : Int} {l : List Int} {k : Int} {m : List Int} (hv : 0 ≤ v) (hr : rightB v l = true) (h : hasB v l k = false) (hm : insL k l = m) (hd : rightB (v + 1) m = true) : Fit v l k false (v + 1) m 0 [] := by
  have h2 := h
  unfold hasB at h2
  rw [hr, Bool.true_and] at h2
  have hw : withOk v l k = true := by unfold withOk; rw [h2, hr]; rfl
  refine ⟨h, ?_, ?_, ?_, ?_, ?_, ?_⟩
  · unfold withB; rw [hw, hm, hd]; simp; omega
  · unfold withV nextV; rw [hw, hm, hd]; rfl
  · unfold withL nextL; rw [hw, hm, hd]; rfl
  · unfold lessB; rw [h]; rfl
  · unfold lessV; rw [h]; rfl
  · unfold lessL; rw [h]; rfl
theorem fit_new_last {v : Int} {l : List Int} {k : Int} (hr : rightB v l = true) (h : hasB v l k = false) (hd : rightB (v + 1) (insL k l) = false) : Fit v l k false 0 [] 0 [] := by
  have h2 := h
  unfold hasB at h2
  rw [hr, Bool.true_and] at h2
  have hw : withOk v l k = true := by unfold withOk; rw [h2, hr]; rfl
  refine ⟨h, ?_, ?_, ?_, ?_, ?_, ?_⟩
  · unfold withB; rw [hw, hd]; rfl
  · unfold withV nextV; rw [hw, hd]; rfl
  · unfold withL nextL; rw [hw, hd]; rfl
  · unfold lessB; rw [h]; rfl
  · unfold lessV; rw [h]; rfl
  · unfold lessL; rw [h]; rfl
def chf (b k : Nat) : Bool :=
  decide (b = 0) || (decide (hasB 1 (mem8 b 8) k = decide (b / 2 ^ k % 2 = 1)) &&
    (if b / 2 ^ k % 2 = 1 then decide (delL k (mem8 b 8) = mem8 (b - 2 ^ k) 8) && (decide (rightB 1 (mem8 (b - 2 ^ k) 8) = decide (1 < (mem8 b 8).length)) && decide (b - 2 ^ k = b &&& (255 - 2 ^ k)))
     else decide (insL k (mem8 b 8) = mem8 (b ||| 2 ^ k) 8) && decide (rightB 1 (mem8 (b ||| 2 ^ k) 8) = true)))
theorem chf_all : ((List.range 256).all fun b => (List.range 8).all fun k => chf b k) = true := by decide +kernel
theorem chf_is {b k : Nat} (hb : b < 256) (hk : k < 8) (h0 : b ≠ 0) : hasB 1 (mem8 b 8) k = decide (b / 2 ^ k % 2 = 1) ∧
    (b / 2 ^ k % 2 = 1 → delL k (mem8 b 8) = mem8 (b - 2 ^ k) 8 ∧ rightB 1 (mem8 (b - 2 ^ k) 8) = decide (1 < (mem8 b 8).length) ∧ b - 2 ^ k = b &&& (255 - 2 ^ k)) ∧
    (¬ b / 2 ^ k % 2 = 1 → insL k (mem8 b 8) = mem8 (b ||| 2 ^ k) 8 ∧ rightB 1 (mem8 (b ||| 2 ^ k) 8) = true) := by
  have h1 := List.all_eq_true.1 chf_all b (List.mem_range.2 hb)
  have h2 := List.all_eq_true.1 h1 k (List.mem_range.2 hk)
  unfold chf at h2
  rw [decide_eq_false h0, Bool.false_or, Bool.and_eq_true] at h2
  obtain ⟨h3, h4⟩ := h2
  refine ⟨of_decide_eq_true h3, fun hb1 => ?_, fun hb1 => ?_⟩
  · rw [if_pos hb1] at h4
    simp only [Bool.and_eq_true, decide_eq_true_eq] at h4
    exact h4
  · rw [if_neg hb1] at h4
    simp only [Bool.and_eq_true, decide_eq_true_eq] at h4
    exact h4
end Go.Proofs.Ytgoiidpcdifojaa
