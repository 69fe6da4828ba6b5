/- disks: Copy, Crash -/
import Derived.Test.YtgoiidpcdifojaaLe
namespace Go.Proofs.Ytgoiidpcdifojaa
open Go.RowKit
theorem cons_of' {α : Type} (n : Nat) (l : List α) (h : l.length = n + 1) : ∃ x m, l = x :: m ∧ m.length = n := by
  cases l with
  | nil => cases h
  | cons x m => exact ⟨x, m, rfl, by simpa using h⟩
theorem len10 {α : Type} (l : List α) (h : l.length = 10) : ∃ x0 x1 x2 x3 x4 x5 x6 x7 x8 x9 : α, l = [x0, x1, x2, x3, x4, x5, x6, x7, x8, x9] := by
  obtain ⟨x0, l0, rfl, h0⟩ := cons_of' 9 l h
  obtain ⟨x1, l1, rfl, h1⟩ := cons_of' 8 l0 h0
  obtain ⟨x2, l2, rfl, h2⟩ := cons_of' 7 l1 h1
  obtain ⟨x3, l3, rfl, h3⟩ := cons_of' 6 l2 h2
  obtain ⟨x4, l4, rfl, h4⟩ := cons_of' 5 l3 h3
  obtain ⟨x5, l5, rfl, h5⟩ := cons_of' 4 l4 h4
  obtain ⟨x6, l6, rfl, h6⟩ := cons_of' 3 l5 h5
  obtain ⟨x7, l7, rfl, h7⟩ := cons_of' 2 l6 h6
  obtain ⟨x8, l8, rfl, h8⟩ := cons_of' 1 l7 h7
  obtain ⟨x9, l9, rfl, h9⟩ := cons_of' 0 l8 h8
  obtain rfl := List.eq_nil_of_length_eq_zero h9
  exact ⟨x0, x1, x2, x3, x4, x5, x6, x7, x8, x9, rfl⟩
set_option maxHeartbeats 4000000 in
set_option maxRecDepth 100000 in
theorem wp_build72 {o : Oper} {a : Act} {w : World} {K : Act → World → Prop} {Q : Exit → Act → World → Prop} (x y : Operand) (l : List (Bool × Sm.Pt)) (hl : l.length = 10) (ho : o.op = .build 72 #[(0, x), (1, y)]) (hx : a.eval x = .agg (slC l).toArray) (hy : a.eval y = .agg (slC l).toArray)
    (hk : K (a.put o.dst (.agg (Dk.mk l l 0 0 nilB).C)) w) : o.wp Try.prog a w K Q := by
  obtain ⟨⟨b0, p0⟩, ⟨b1, p1⟩, ⟨b2, p2⟩, ⟨b3, p3⟩, ⟨b4, p4⟩, ⟨b5, p5⟩, ⟨b6, p6⟩, ⟨b7, p7⟩, ⟨b8, p8⟩, ⟨b9, p9⟩, rfl⟩ := len10 l hl
  unfold slC at hx hy
  simp only [List.flatMap_cons, List.flatMap_nil, List.append_nil, List.cons_append, List.nil_append] at hx hy
  unfold Oper.wp
  obtain ⟨ev, hev⟩ : ∃ ev, ev = a.eval := ⟨_, rfl⟩
  rw [← hev] at hx hy ⊢
  clear hev
  unfold Sm.Pt.V at hx hy
  unfold execOp
  simp only [ho]
  simp [hx, hy, go_sem]
  go_simp
  exact hk
def copyC (c : Dc) : Dc := ⟨c.now, c.now, 0, 0, []⟩
def CopyPost (c : Dc) (w : World) (e : Ending) (w' : World) : Prop := ∃ g, e = .returned (.pointer (some ⟨g, 0, none⟩)) ∧ w.heap.size ≤ g ∧ DK w' g c ∧ Ex w w'
set_option maxHeartbeats 4000000 in
set_option maxRecDepth 100000 in
theorem copy_any (g : Nat) (c : Dc) (w : World) (h : DK w g c) : Calls Try.prog 18 #[.pointer (some ⟨g, 0, none⟩)] w (CopyPost (copyC c) w) := by
  obtain ⟨d, hd, hc⟩ := h
  have HD := Lib.hid hd
  have HCT := Lib.hid hc
  clear hd hc
  go_enter Try.func18, Try.ntmps18
  go_wp2_with fail
  obtain ⟨T, hT⟩ : ∃ T : List Ar, T = [.is (.pointer (some ⟨g, 0, none⟩)), .is (.pointer (some ⟨g, 0, none⟩)), .is (.pointer (some ⟨g, 0, none⟩)), .is (.agg (slC d.now).toArray), .is (.pointer (some ⟨g, 0, none⟩)), .is (.pointer (some ⟨g, 0, none⟩)), .is (.pointer (some ⟨g, 0, none⟩)), .is (.agg (slC d.now).toArray), .is (.agg (Dk.mk d.now d.now 0 0 nilB).C), .blk (w.heap.size) 72 (Dk.mk d.now d.now 0 0 nilB).C] := ⟨_, rfl⟩
  refine wp_region_flow 10 (arPhi T) (by kernel_rfl) rfl (by kernel_rfl) (by kernel_rfl) (by kernel_rfl) (arPhi_stable T) (fitB_spec (by kernel_rfl)) ?_ ?_
  · intro i o hi ho
    have hi' : i = 0 ∨ i = 1 ∨ i = 2 ∨ i = 3 ∨ i = 4 ∨ i = 5 ∨ i = 6 ∨ i = 7 ∨ i = 8 ∨ i = 9 := by omega
    clear hi
    rcases hi' with rfl | rfl | rfl | rfl | rfl | rfl | rfl | rfl | rfl | rfl
    all_goals (simp only [List.getElem?_toArray, List.getElem?_cons_zero, List.getElem?_cons_succ, Option.some.injEq] at ho; subst ho; intro a w2 hx hsz hdep hout)
    · rw [if_pos (by rfl)]
      intro K hK
      have q0 := hout 0 (outB_spec (by kernel_rfl))
      exact wp_mv _ rfl (hK _ _ (Ex.refl _) (by rw [hT]; exact q0))
    · rw [if_pos (by rfl)]
      intro K hK
      obtain ⟨v3, h3, k3⟩ := hdep ⟨0, .data⟩ (by simp) rfl _ rfl
      have q3 := k3 _ rfl
      clear k3
      rw [hT] at h3
      obtain rfl : v3 = .pointer (some ⟨g, 0, none⟩) := h3
      rw [Array.getD_eq_getD_getElem?] at q3
      clear hsz hdep hout
      go_simp
      exact hK _ _ (Ex.refl _) (by rw [hT]; rfl)
    · rw [if_pos (by rfl)]
      intro K hK
      obtain ⟨v4, h4, k4⟩ := hdep ⟨1, .data⟩ (by simp) rfl _ rfl
      have q4 := k4 _ rfl
      clear k4
      rw [hT] at h4
      obtain rfl : v4 = .pointer (some ⟨g, 0, none⟩) := h4
      rw [Array.getD_eq_getD_getElem?] at q4
      clear hsz hdep hout
      go_simp
      exact hK _ _ (Ex.refl _) (by rw [hT]; rfl)
    · rw [if_pos (by rfl)]
      intro K hK
      obtain ⟨v5, h5, k5⟩ := hdep ⟨2, .data⟩ (by simp) rfl _ rfl
      have q5 := k5 _ rfl
      clear k5
      rw [hT] at h5
      obtain rfl : v5 = .pointer (some ⟨g, 0, none⟩) := h5
      exact wp_ld70 _ g 0 d.now HD.out.n10 rfl q5 (fun j v hv => (hx.cell (p := ⟨g, 0 + j, none⟩) HD.out.blk.lt).trans (dk_now_range HD.out j v hv)) (hK _ _ (Ex.refl _) (by rw [hT]; rfl))
    · rw [if_pos (by rfl)]
      intro K hK
      have q0 := hout 0 (outB_spec (by kernel_rfl))
      exact wp_mv _ rfl (hK _ _ (Ex.refl _) (by rw [hT]; exact q0))
    · rw [if_pos (by rfl)]
      intro K hK
      obtain ⟨v7, h7, k7⟩ := hdep ⟨4, .data⟩ (by simp) rfl _ rfl
      have q7 := k7 _ rfl
      clear k7
      rw [hT] at h7
      obtain rfl : v7 = .pointer (some ⟨g, 0, none⟩) := h7
      rw [Array.getD_eq_getD_getElem?] at q7
      clear hsz hdep hout
      go_simp
      exact hK _ _ (Ex.refl _) (by rw [hT]; rfl)
    · rw [if_pos (by rfl)]
      intro K hK
      obtain ⟨v8, h8, k8⟩ := hdep ⟨5, .data⟩ (by simp) rfl _ rfl
      have q8 := k8 _ rfl
      clear k8
      rw [hT] at h8
      obtain rfl : v8 = .pointer (some ⟨g, 0, none⟩) := h8
      rw [Array.getD_eq_getD_getElem?] at q8
      clear hsz hdep hout
      go_simp
      exact hK _ _ (Ex.refl _) (by rw [hT]; rfl)
    · rw [if_pos (by rfl)]
      intro K hK
      obtain ⟨v9, h9, k9⟩ := hdep ⟨6, .data⟩ (by simp) rfl _ rfl
      have q9 := k9 _ rfl
      clear k9
      rw [hT] at h9
      obtain rfl : v9 = .pointer (some ⟨g, 0, none⟩) := h9
      exact wp_ld70 _ g 0 d.now HD.out.n10 rfl q9 (fun j v hv => (hx.cell (p := ⟨g, 0 + j, none⟩) HD.out.blk.lt).trans (dk_now_range HD.out j v hv)) (hK _ _ (Ex.refl _) (by rw [hT]; rfl))
    · rw [if_pos (by rfl)]
      intro K hK
      obtain ⟨v6, h6, k6⟩ := hdep ⟨3, .data⟩ (by simp) rfl _ rfl
      have q6 := k6 _ rfl
      clear k6
      rw [hT] at h6
      obtain rfl : v6 = .agg (slC d.now).toArray := h6
      obtain ⟨v10, h10, k10⟩ := hdep ⟨7, .data⟩ (by simp) rfl _ rfl
      have q10 := k10 _ rfl
      clear k10
      rw [hT] at h10
      obtain rfl : v10 = .agg (slC d.now).toArray := h10
      exact wp_build72 _ _ d.now HD.out.n10 rfl q6 q10 (hK _ _ (Ex.refl _) (by rw [hT]; rfl))
    · rw [if_pos (by rfl)]
      intro K hK
      obtain ⟨v11, h11, k11⟩ := hdep ⟨8, .data⟩ (by simp) rfl _ rfl
      have q11 := k11 _ rfl
      clear k11
      rw [hT] at h11
      obtain rfl : v11 = .agg (Dk.mk d.now d.now 0 0 nilB).C := h11
      rw [Array.getD_eq_getD_getElem?] at q11
      have hsz0 := hx.size
      clear hsz hdep hout
      go_simp
      exact hK _ _ ((Below.refl _ _).alloc (Nat.le_refl _) _) (by rw [hT]; exact ⟨w2.heap.size, rfl, hsz0, Bk.new rfl _ _⟩)
  · intro a w2 hx hdef hsz hdone hout
    obtain ⟨v12, h12, k12⟩ := hdone 9 _ (by omega) rfl
    have q12 := k12 _ rfl
    clear k12
    rw [hT] at h12
    obtain ⟨g12, rfl, e12, b12⟩ := h12
    clear hdone hT
    have hA := arr_range a.tmps 13 hsz
    change a.tmps = #[a.tmps[0]?.getD undef, a.tmps[1]?.getD undef, a.tmps[2]?.getD undef, a.tmps[3]?.getD undef, a.tmps[4]?.getD undef, a.tmps[5]?.getD undef, a.tmps[6]?.getD undef, a.tmps[7]?.getD undef, a.tmps[8]?.getD undef, a.tmps[9]?.getD undef, a.tmps[10]?.getD undef, a.tmps[11]?.getD undef, a.tmps[12]?.getD undef] at hA
    have e0 := hout 0 (fun i o _ h => outB_spec (by kernel_rfl) i o h)
    have e1 := hout 1 (fun i o _ h => outB_spec (by kernel_rfl) i o h)
    simp only [Array.getD_eq_getD_getElem?, List.getElem?_toArray, List.getElem?_cons_zero, List.getElem?_cons_succ, Option.getD_some] at e0 e1
    rw [e0, e1] at hA
    clear e0 e1 hout
    have hds2 : a.defers = [] := hdef
    have ea : a = ⟨a.tmps, a.defers⟩ := rfl
    rw [Array.getD_eq_getD_getElem?] at q12
    rw [hA, hds2, q12] at ea
    clear hA hds2 q12 hdef
    generalize a.tmps[3]?.getD undef = y3 at ea
    generalize a.tmps[4]?.getD undef = y4 at ea
    generalize a.tmps[5]?.getD undef = y5 at ea
    generalize a.tmps[6]?.getD undef = y6 at ea
    generalize a.tmps[7]?.getD undef = y7 at ea
    generalize a.tmps[8]?.getD undef = y8 at ea
    generalize a.tmps[9]?.getD undef = y9 at ea
    generalize a.tmps[10]?.getD undef = y10 at ea
    generalize a.tmps[11]?.getD undef = y11 at ea
    generalize a.tmps[2]?.getD undef = y2 at ea
    clear hsz
    subst ea
    have bx : Ex w w2 := Ex.trans (show Ex w w.drew from (Below.refl _ _).drew) hx
    unfold wpOp
    simp only [List.getElem?_toArray, List.getElem?_cons_zero, List.getElem?_cons_succ]
    rw [if_pos (by rfl)]
    left
    have B12 := Lib.hid b12
    have E12 := Lib.hid e12
    have BX := Lib.hid bx
    clear b12 e12 bx hx
    go_simp
    go_wp2_with fail
    go_ret
    have hd := HD.out
    refine ⟨g12, rfl, E12.out, ⟨⟨d.now, d.now, 0, 0, nilB⟩, ⟨B12.out, hd.n10, hd.n10, fun i x hx => (hd.nin i x hx).ext BX.out, fun i x hx => (hd.nin i x hx).ext BX.out, nilB_in _ _⟩, ?_⟩, BX.out⟩
    rw [← HCT.out]; rfl
end Go.Proofs.Ytgoiidpcdifojaa
