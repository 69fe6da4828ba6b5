/- walks: shard.Home -/
import Derived.Test.YtlebanghcbkejaaS1
import Derived.Laws.OwnMore
import Derived.OwnWalk
import Derived.Below
namespace Go.Proofs.Ytlebanghcbkejaa
open Go.RowKit
def homeC (m : Int) (j : Nat) : List Value := (List.range 16).map fun (i : Nat) => .int .i64 (if i < j then firstV i m else 0)
theorem homeC_length (m : Int) (j : Nat) : (homeC m j).length = 16 := by simp [homeC]
theorem homeC_at (m : Int) (j k : Nat) (h : k < 16) : (homeC m j)[k]? = some (.int .i64 (if k < j then firstV k m else 0)) := by
  simp [homeC, h]
theorem homeC_zero (m : Int) : List.replicate 16 (Value.int .i64 0) = homeC m 0 := by
  unfold homeC; simp; rfl
theorem homeC_set (m : Int) (j : Nat) (h : j < 16) : (homeC m j).set j (.int .i64 (firstV j m)) = homeC m (j + 1) := by
  apply List.ext_getElem?
  intro k
  by_cases hk : k < 16
  · rw [List.getElem?_set, homeC_at _ _ _ hk, homeC_at _ _ _ hk, homeC_length]
    by_cases e : j = k
    · subst e; simp [h]
    · simp only [e, if_false]
      have : (k < j) ↔ (k < j + 1) := by omega
      simp [this]
  · rw [List.getElem?_eq_none (by simp [homeC_length]; omega), List.getElem?_eq_none (by simp [homeC_length]; omega)]
theorem Try.info3 : (Try.prog.info? 3).map (fun i => (i.zero, i.size, i.bytes)) = some (some (.int .i64 0), 1, 8) := by kernel_rfl
theorem made_ints (n : Nat) : (madeCells (Value.int .i64 0).cells (n * 1)).toList = List.replicate n (.int .i64 0) := by
  rw [Nat.mul_one]
  show (madeCells #[Value.int .i64 0] n).toList = _
  rw [toList_madeCells_one]
set_option maxHeartbeats 2000000 in
set_option maxRecDepth 100000 in
theorem home_any (m : Int) (w : World) :
    Calls Try.prog 25 #[.int .i64 m] w fun e w' => e = .returned (.slice (some ⟨w.heap.size, 0, none⟩) 16 16) ∧ w'.ownsRow w.heap.size 3 1 (.slice (some ⟨w.heap.size, 0, none⟩) 16 16) 16 (homeC m 16) ∧ Below w.heap.size w w' := by
  obtain ⟨i0, hi, hz0, hz1, hz2⟩ := info_parts Try.info3
  obtain ⟨B, hB⟩ : ∃ B, B = w.heap.size := ⟨_, rfl⟩
  rw [← hB]
  go_enter Try.func25, Try.ntmps25
  go_wp2_with (at_make; refine wpList_make_full _ rfl _ _ 31 rfl B 3 i0 (.int .i64 0) 1 Try.underlying31 hi hz0 hz1 _ _ _ _ 16 rfl rfl rfl rfl (by rw [hz2]; omega) (by unfold maxLen; omega) (by rw [hB]; exact Nat.le_refl _) ?_; intro w1 hown hgrow)
  rw [← hB]
  rw [← hB] at hown
  have hbl0 : Below B w w1 := by rw [hB]; exact (Below.refl _ _).grown hgrow (Nat.le_refl _) (by intro k hk; cases hk)
  have hown0 : w1.ownsRow B 3 1 (.slice (some ⟨B, 0, none⟩) 16 16) 16 (homeC m 0) := by rw [← homeC_zero, ← made_ints]; exact hown
  clear hown hgrow
  have HB := Lib.hid hB
  clear hB
  go_loopw [4, 8] (fun _ i wr => ∃ j : Nat, j ≤ 16 ∧ i = .int .i64 j ∧ wr.ownsRow B 3 1 (.slice (some ⟨B, 0, none⟩) 16 16) 16 (homeC m j) ∧ Below B w wr) (fun _ i _ => 16 - (intOf i).toNat)
  case atStart => exact ⟨0, Nat.zero_le _, rfl, hown0, hbl0⟩
  case round =>
    obtain ⟨j, hj, rfl, hown, hbl⟩ := hrel
    clear hown0 hbl0
    by_cases hlt : j < 16
    · have q0 : (0 : Int) ≤ (j : Int) := by omega
      have q1 : (j : Int) < 16 := by omega
      have hfr := hown.frozenAt j
      have hcell : wr.cell? ⟨B, j, none⟩ = some (.int .i64 (if j < j then firstV j m else 0)) := by
        rw [hown.cellAt j (by omega)]; exact homeC_at _ _ _ hlt
      rw [if_neg (Nat.lt_irrefl _)] at hcell
      have hst := hown.stored j (.int .i64 (firstV j m))
      rw [homeC_set _ _ hlt] at hst
      have hbl2 : Below B w (wr.setCell ⟨B, j, none⟩ (.int .i64 (firstV j m))) := hbl.setCell (p := ⟨B, j, none⟩) (Nat.le_refl _) _
      have HST := Lib.hid (And.intro hst.1 hbl2)
      clear hst hbl2 hown hbl
      go_wp2_with (go_at_call 23; refine (first_any j m _).mono ?_; rintro e w1 ⟨rfl, rfl⟩)
      go_roundw
      case rel => exact ⟨j + 1, by omega, by go_num, HST.out.1, HST.out.2⟩
      case measure => simp [intOf]; omega
    · obtain rfl : j = 16 := by omega
      go_wp2
      go_ret
      exact ⟨rfl, hown, hbl⟩
end Go.Proofs.Ytlebanghcbkejaa
