/- walks: known of chapter 3 -/
import Derived.Test.YtkneeocicbadjaaStB
namespace Go.Proofs.Ytkneeocicbadjaa
open Go.RowKit
theorem k3a : nrm (signs ⟨#[49, 50, 51, 52]⟩) = some [49, 50, 51, 52] := by decide +kernel
theorem k3b : nrm (signs ⟨#[49, 50, 32, 51, 52]⟩) = some [49, 50, 51, 52] := by decide +kernel
theorem k3c : nrm (signs ⟨#[49, 50]⟩) = none := by decide +kernel
theorem k3d : decide (digsL [49, 50, 51, 52] (sumL [1, 0, 0, 0]) 16 = zeroL) = false := by decide +kernel
set_option maxHeartbeats 4000000 in
set_option maxRecDepth 100000 in
theorem known3_any (w : World) :
    Calls Try.prog 39 #[] w fun e w' => e = .returned (.bool true) ∧ Below w.heap.size w w' := by
  obtain ⟨D, hD⟩ : ∃ D, D = digsL [49, 50, 51, 52] (sumL [1, 0, 0, 0]) 16 := ⟨_, rfl⟩
  have HD := Lib.hid (show D.length = 16 by rw [hD]; exact digsL_len _ _ _)
  have hne : decide (D = zeroL) = false := by rw [hD]; exact k3d
  have P1 : Hid (∀ W : World, Calls Try.prog 42 #[.string ⟨#[49, 50, 51, 52]⟩, (.agg #[.int .u8 1, .int .u8 0, .int .u8 0, .int .u8 0])] W fun e w' => e = .returned (.tuple #[digV D, .int .i64 0]) ∧ Ex W w') := Lib.hid (fun W => by
    have h := pin_any ⟨#[49, 50, 51, 52]⟩ [1, 0, 0, 0] rfl W
    rw [show pinL ⟨#[49, 50, 51, 52]⟩ [1, 0, 0, 0] = D by rw [hD]; unfold pinL; rw [k3a], show pinE ⟨#[49, 50, 51, 52]⟩ = 0 by unfold pinE; rw [k3a]] at h
    exact h)
  have P2 : Hid (∀ W : World, Calls Try.prog 42 #[.string ⟨#[49, 50, 32, 51, 52]⟩, (.agg #[.int .u8 1, .int .u8 0, .int .u8 0, .int .u8 0])] W fun e w' => e = .returned (.tuple #[digV D, .int .i64 0]) ∧ Ex W w') := Lib.hid (fun W => by
    have h := pin_any ⟨#[49, 50, 32, 51, 52]⟩ [1, 0, 0, 0] rfl W
    rw [show pinL ⟨#[49, 50, 32, 51, 52]⟩ [1, 0, 0, 0] = D by rw [hD]; unfold pinL; rw [k3b], show pinE ⟨#[49, 50, 32, 51, 52]⟩ = 0 by unfold pinE; rw [k3b]] at h
    exact h)
  have P3 : Hid (∀ W : World, Calls Try.prog 42 #[.string ⟨#[49, 50]⟩, (.agg #[.int .u8 1, .int .u8 0, .int .u8 0, .int .u8 0])] W fun e w' => e = .returned (.tuple #[digV zeroL, .int .i64 23]) ∧ Ex W w') := Lib.hid (fun W => by
    have h := pin_any ⟨#[49, 50]⟩ [1, 0, 0, 0] rfl W
    rw [show pinL ⟨#[49, 50]⟩ [1, 0, 0, 0] = zeroL by unfold pinL; rw [k3c], show pinE ⟨#[49, 50]⟩ = 23 by unfold pinE; rw [k3c]] at h
    exact h)
  have HZ := Lib.hid (show zeroL.length = 16 from rfl)
  clear hD
  have HNE := Lib.hid (show (!decide (D = zeroL)) = true by rw [hne]; rfl)
  clear hne
  go_enter Try.func39, Try.ntmps39
  go_wp2_with fail
  refine (P1.out _).mono ?_
  rintro e w1 ⟨rfl, x1⟩
  have bw1 : Below w.heap.size w w1 := x1
  clear x1 P1
  go_wp2_with ((with_reducible refine at_any ?_ ?_); (focus go_simp); (refine fun K hK => wp_st _ _ w1.heap.size D rfl rfl rfl HD.out (Bk.new rfl _ _) rfl (fun w8 hd ho => hK _ _ ?_)))
  have x2 : Ex w1 (w1.alloc (.cells zero16 24)) := (Below.refl _ _).alloc (Nat.le_refl _) _
  obtain ⟨g1, hg1⟩ : ∃ g, g = w1.heap.size := ⟨_, rfl⟩
  have A1 := Lib.hid hd
  have bw2 : Below w.heap.size w w8 := ho.below _ bw1.size _ (bw1.trans (x2.mono bw1.size))
  have gz1 : w.heap.size ≤ g1 := by rw [hg1]; exact bw1.size
  rw [← hg1] at A1 ⊢
  clear hd ho x2 hg1 bw1 hK
  refine (P2.out _).mono ?_
  rintro e w2 ⟨rfl, x2⟩
  have A2 := Lib.hid (A1.out.ext x2)
  have bw3 : Below w.heap.size w w2 := bw2.trans (x2.mono bw2.size)
  clear A1 bw2 x2 P2
  go_wp2_with ((with_reducible refine at_any ?_ ?_); (focus go_simp); (refine fun K hK => wp_st _ _ w2.heap.size D rfl rfl rfl HD.out (Bk.new rfl _ _) rfl (fun w9 hd ho => hK _ _ ?_)))
  have x2 : Ex w2 (w2.alloc (.cells zero16 24)) := (Below.refl _ _).alloc (Nat.le_refl _) _
  obtain ⟨g2, hg2⟩ : ∃ g, g = w2.heap.size := ⟨_, rfl⟩
  have A3 := Lib.hid (ho.db (A2.out.ext x2) (by have := A2.out.lt; omega))
  have B1 := Lib.hid hd
  have bw2 : Below w.heap.size w w9 := ho.below _ bw3.size _ (bw3.trans (x2.mono bw3.size))
  have gz2 : w.heap.size ≤ g2 := by rw [hg2]; exact bw3.size
  rw [← hg2] at B1 ⊢
  clear hd ho x2 hg2 bw3 hK A2
  refine (P3.out _).mono ?_
  rintro e w3 ⟨rfl, x3⟩
  have A4 := Lib.hid (A3.out.ext x3)
  have B2 := Lib.hid (B1.out.ext x3)
  have bw3 : Below w.heap.size w w3 := bw2.trans (x3.mono bw2.size)
  have x4 : Ex w3 (w3.alloc (.cells zero16 24)) := (Below.refl _ _).alloc (Nat.le_refl _) _
  have A4b := Lib.hid (A4.out.ext x4)
  have B2b := Lib.hid (B2.out.ext x4)
  have la := Lib.hid (Nat.ne_of_lt A4.out.lt)
  have lb := Lib.hid (Nat.ne_of_lt B2.out.lt)
  have bw4 : Below w.heap.size w (w3.alloc (.cells zero16 24)) := bw3.trans (x4.mono bw3.size)
  have bz3 := bw3.size
  clear A3 B1 bw2 x3 x4 P3 bw3
  go_wp2_with (first
    | ((with_reducible refine at_any ?_ ?_); (focus go_simp); (refine fun K hK => wp_st _ _ w3.heap.size zeroL rfl rfl rfl rfl (Bk.new rfl _ _) rfl (fun w8 hd ho => hK _ _ ?_)))
    | ((with_reducible refine at_any ?_ ?_); (focus go_simp); (refine fun K hK => wp_ld _ g1 D rfl rfl (ho.db A4b.out la.out) (hK _ _ ?_)))
    | ((with_reducible refine at_any ?_ ?_); (focus go_simp); (refine fun K hK => wp_ld _ g2 D rfl rfl (ho.db B2b.out lb.out) (hK _ _ ?_)))
    | ((with_reducible refine at_any ?_ ?_); (focus go_simp); (refine fun K hK => wp_eqd _ _ _ D D true rfl HD.out HD.out rfl rfl (decide_eq_true rfl) (hK _ _ ?_)))
    | ((with_reducible refine at_any ?_ ?_); (focus go_simp); (refine fun K hK => wp_neqd _ _ _ D zeroL true rfl HD.out rfl rfl rfl HNE.out (hK _ _ ?_))))
  go_ret
  exact ⟨rfl, ho.below _ bz3 _ bw4⟩
end Go.Proofs.Ytkneeocicbadjaa
