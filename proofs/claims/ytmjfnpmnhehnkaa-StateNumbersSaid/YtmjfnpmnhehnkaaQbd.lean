/- Rc -/
import Derived.Test.YtmjfnpmnhehnkaaQbc
set_option maxRecDepth 100000
set_option maxHeartbeats 16000000
namespace Go.Proofs.Ytmjfnpmnhehnkaa
open Go.RowKit
theorem built_z4 : Try.prog.built 32 [] = some (Lib.byteCells z4).toArray := by kernel_rfl
theorem nothing_iff (a : Vt) : decide (a.ct = zeroVc) = true ↔ (a.id = z4 ∧ a.gen = 0 ∧ a.pin = z16 ∧ a.sec.l.length = 0 ∧ a.lim = 0 ∧ a.used = 0 ∧ a.own = z16 ∧ a.gone = false ∧ a.wiped = false) := by
  rw [decide_eq_true_eq, Vc.eq_iff, List.length_eq_zero_iff]
  exact Iff.rfl
theorem nothing_any (a : Vt) (w : World) (ha : VI w a) : Calls Try.prog 122 #[a.V] w fun e w' => e = .returned (.bool (decide (a.ct = zeroVc))) ∧ Ex w w' := by
  obtain ⟨z, hz⟩ : ∃ z, z = decide (a.ct = zeroVc) := ⟨_, rfl⟩
  have hi := nothing_iff a
  rw [← hz] at hi ⊢
  have HI := Hi hi
  clear hz hi
  have OK := Hi ha.ok
  obtain ⟨cs, hcs⟩ : ∃ cs, cs = a.C.toArray := ⟨_, rfl⟩
  have A0 : Hid (VB (w.alloc (.cells cs 36)) w.heap.size a) := Hi ⟨ha.ok, by rw [hcs]; exact Bk.new rfl _ _⟩
  have BW : Hid (Ex w (w.alloc (.cells cs 36))) := Hi (Ex.alloc w _)
  rw [show (Calls Try.prog 122 #[a.V] w) = (Calls Try.prog 122 #[.agg cs] w) by rw [hcs]; rfl]
  clear hcs ha
  obtain ⟨a4, a21, a22, a23, a40, a41⟩ := A0.out.cells
  unfold Pt.V at a21
  by_cases h0 : a.id = z4
  rotate_left
  · skip
    go_enter Try.func122, Try.ntmps122
    go_wp2_with ((with_reducible refine so0 ?_ ?_); (focus rfl))
    refine at9 (by go_simp) fun K0 hK => ld_vid _ _ a rfl rfl A0.out (hK _ _ ?_)
    clear hK
    go_wp2_with ((with_reducible refine so0 ?_ ?_); (focus rfl))
    refine at9 (by go_simp) fun K0 hK => wp_build _ _ rfl _ built_z4 (hK _ _ ?_)
    clear hK
    go_wp2_with ((with_reducible refine so0 ?_ ?_); (focus rfl))
    refine at9 (by go_simp) fun K0 hK => wp_eql_id _ _ _ rfl a.id z4 OK.out.idN rfl rfl rfl (hK _ _ ?_)
    clear hK
    rw [decide_eq_false h0]
    go_wp2_with ((with_reducible refine so0 ?_ ?_); (focus rfl))
    repeat ((with_reducible refine at8 ?_ ?_); (focus (go_simp; done)); go_wp2_with ((with_reducible refine so0 ?_ ?_); (focus rfl)))
    go_ret
    have e : z = false := Bool.eq_false_iff.2 (fun h => by have h9 := HI.out.1 h; exact h0 h9.1)
    exact ⟨congrArg (fun b => Ending.returned (.bool b)) e.symm, BW.out⟩
  have H0 := Hi h0
  clear h0
  by_cases h1 : a.gen = 0
  rotate_left
  · skip
    go_enter Try.func122, Try.ntmps122
    go_wp2_with ((with_reducible refine so0 ?_ ?_); (focus rfl))
    refine at9 (by go_simp) fun K0 hK => ld_vid _ _ a rfl rfl A0.out (hK _ _ ?_)
    clear hK
    go_wp2_with ((with_reducible refine so0 ?_ ?_); (focus rfl))
    refine at9 (by go_simp) fun K0 hK => wp_build _ _ rfl _ built_z4 (hK _ _ ?_)
    clear hK
    go_wp2_with ((with_reducible refine so0 ?_ ?_); (focus rfl))
    refine at9 (by go_simp) fun K0 hK => wp_eql_id _ _ _ rfl a.id z4 OK.out.idN rfl rfl rfl (hK _ _ ?_)
    clear hK
    rw [decide_eq_true H0.out]
    go_wp2_with ((with_reducible refine so0 ?_ ?_); (focus rfl))
    repeat ((with_reducible refine at8 ?_ ?_); (focus (go_simp; done)); go_wp2_with ((with_reducible refine so0 ?_ ?_); (focus rfl)))
    go_ret
    have e : z = false := Bool.eq_false_iff.2 (fun h => by have h9 := HI.out.1 h; exact h1 h9.2.1)
    exact ⟨congrArg (fun b => Ending.returned (.bool b)) e.symm, BW.out⟩
  have H1 := Hi h1
  rw [h1] at a4
  clear h1
  by_cases h2 : a.pin = z16
  rotate_left
  · skip
    go_enter Try.func122, Try.ntmps122
    go_wp2_with ((with_reducible refine so0 ?_ ?_); (focus rfl))
    refine at9 (by go_simp) fun K0 hK => ld_vid _ _ a rfl rfl A0.out (hK _ _ ?_)
    clear hK
    go_wp2_with ((with_reducible refine so0 ?_ ?_); (focus rfl))
    refine at9 (by go_simp) fun K0 hK => wp_build _ _ rfl _ built_z4 (hK _ _ ?_)
    clear hK
    go_wp2_with ((with_reducible refine so0 ?_ ?_); (focus rfl))
    refine at9 (by go_simp) fun K0 hK => wp_eql_id _ _ _ rfl a.id z4 OK.out.idN rfl rfl rfl (hK _ _ ?_)
    clear hK
    rw [decide_eq_true H0.out]
    go_wp2_with ((with_reducible refine so0 ?_ ?_); (focus rfl))
    refine at9 (by go_simp) fun K0 hK => ld_vpin _ _ a rfl rfl A0.out (hK _ _ ?_)
    clear hK
    go_wp2_with ((with_reducible refine so0 ?_ ?_); (focus rfl))
    refine at9 (by go_simp) fun K0 hK => wp_build _ _ rfl _ built_z16 (hK _ _ ?_)
    clear hK
    go_wp2_with ((with_reducible refine so0 ?_ ?_); (focus rfl))
    refine at9 (by go_simp) fun K0 hK => wp_eql_dig _ _ _ rfl a.pin z16 OK.out.pinN rfl rfl rfl (hK _ _ ?_)
    clear hK
    rw [decide_eq_false h2]
    go_wp2_with ((with_reducible refine so0 ?_ ?_); (focus rfl))
    repeat ((with_reducible refine at8 ?_ ?_); (focus (go_simp; done)); go_wp2_with ((with_reducible refine so0 ?_ ?_); (focus rfl)))
    go_ret
    have e : z = false := Bool.eq_false_iff.2 (fun h => by have h9 := HI.out.1 h; exact h2 h9.2.2.1)
    exact ⟨congrArg (fun b => Ending.returned (.bool b)) e.symm, BW.out⟩
  have H2 := Hi h2
  clear h2
  by_cases h3 : a.sec.l.length = 0
  rotate_left
  · skip
    have hl3 : ¬ (a.sec.l.length : Int) = 0 := by omega
    go_enter Try.func122, Try.ntmps122
    go_wp2_with ((with_reducible refine so0 ?_ ?_); (focus rfl))
    refine at9 (by go_simp) fun K0 hK => ld_vid _ _ a rfl rfl A0.out (hK _ _ ?_)
    clear hK
    go_wp2_with ((with_reducible refine so0 ?_ ?_); (focus rfl))
    refine at9 (by go_simp) fun K0 hK => wp_build _ _ rfl _ built_z4 (hK _ _ ?_)
    clear hK
    go_wp2_with ((with_reducible refine so0 ?_ ?_); (focus rfl))
    refine at9 (by go_simp) fun K0 hK => wp_eql_id _ _ _ rfl a.id z4 OK.out.idN rfl rfl rfl (hK _ _ ?_)
    clear hK
    rw [decide_eq_true H0.out]
    go_wp2_with ((with_reducible refine so0 ?_ ?_); (focus rfl))
    refine at9 (by go_simp) fun K0 hK => ld_vpin _ _ a rfl rfl A0.out (hK _ _ ?_)
    clear hK
    go_wp2_with ((with_reducible refine so0 ?_ ?_); (focus rfl))
    refine at9 (by go_simp) fun K0 hK => wp_build _ _ rfl _ built_z16 (hK _ _ ?_)
    clear hK
    go_wp2_with ((with_reducible refine so0 ?_ ?_); (focus rfl))
    refine at9 (by go_simp) fun K0 hK => wp_eql_dig _ _ _ rfl a.pin z16 OK.out.pinN rfl rfl rfl (hK _ _ ?_)
    clear hK
    rw [decide_eq_true H2.out]
    go_wp2_with ((with_reducible refine so0 ?_ ?_); (focus rfl))
    repeat ((with_reducible refine at8 ?_ ?_); (focus (go_simp; done)); go_wp2_with ((with_reducible refine so0 ?_ ?_); (focus rfl)))
    go_ret
    have e : z = false := Bool.eq_false_iff.2 (fun h => by have h9 := HI.out.1 h; exact h3 h9.2.2.2.1)
    exact ⟨congrArg (fun b => Ending.returned (.bool b)) e.symm, BW.out⟩
  have H3 := Hi h3
  rw [h3] at a21
  clear h3
  by_cases h4 : a.lim = 0
  rotate_left
  · skip
    go_enter Try.func122, Try.ntmps122
    go_wp2_with ((with_reducible refine so0 ?_ ?_); (focus rfl))
    refine at9 (by go_simp) fun K0 hK => ld_vid _ _ a rfl rfl A0.out (hK _ _ ?_)
    clear hK
    go_wp2_with ((with_reducible refine so0 ?_ ?_); (focus rfl))
    refine at9 (by go_simp) fun K0 hK => wp_build _ _ rfl _ built_z4 (hK _ _ ?_)
    clear hK
    go_wp2_with ((with_reducible refine so0 ?_ ?_); (focus rfl))
    refine at9 (by go_simp) fun K0 hK => wp_eql_id _ _ _ rfl a.id z4 OK.out.idN rfl rfl rfl (hK _ _ ?_)
    clear hK
    rw [decide_eq_true H0.out]
    go_wp2_with ((with_reducible refine so0 ?_ ?_); (focus rfl))
    refine at9 (by go_simp) fun K0 hK => ld_vpin _ _ a rfl rfl A0.out (hK _ _ ?_)
    clear hK
    go_wp2_with ((with_reducible refine so0 ?_ ?_); (focus rfl))
    refine at9 (by go_simp) fun K0 hK => wp_build _ _ rfl _ built_z16 (hK _ _ ?_)
    clear hK
    go_wp2_with ((with_reducible refine so0 ?_ ?_); (focus rfl))
    refine at9 (by go_simp) fun K0 hK => wp_eql_dig _ _ _ rfl a.pin z16 OK.out.pinN rfl rfl rfl (hK _ _ ?_)
    clear hK
    rw [decide_eq_true H2.out]
    go_wp2_with ((with_reducible refine so0 ?_ ?_); (focus rfl))
    repeat ((with_reducible refine at8 ?_ ?_); (focus (go_simp; done)); go_wp2_with ((with_reducible refine so0 ?_ ?_); (focus rfl)))
    go_ret
    have e : z = false := Bool.eq_false_iff.2 (fun h => by have h9 := HI.out.1 h; exact h4 h9.2.2.2.2.1)
    exact ⟨congrArg (fun b => Ending.returned (.bool b)) e.symm, BW.out⟩
  have H4 := Hi h4
  rw [h4] at a22
  clear h4
  by_cases h5 : a.used = 0
  rotate_left
  · skip
    go_enter Try.func122, Try.ntmps122
    go_wp2_with ((with_reducible refine so0 ?_ ?_); (focus rfl))
    refine at9 (by go_simp) fun K0 hK => ld_vid _ _ a rfl rfl A0.out (hK _ _ ?_)
    clear hK
    go_wp2_with ((with_reducible refine so0 ?_ ?_); (focus rfl))
    refine at9 (by go_simp) fun K0 hK => wp_build _ _ rfl _ built_z4 (hK _ _ ?_)
    clear hK
    go_wp2_with ((with_reducible refine so0 ?_ ?_); (focus rfl))
    refine at9 (by go_simp) fun K0 hK => wp_eql_id _ _ _ rfl a.id z4 OK.out.idN rfl rfl rfl (hK _ _ ?_)
    clear hK
    rw [decide_eq_true H0.out]
    go_wp2_with ((with_reducible refine so0 ?_ ?_); (focus rfl))
    refine at9 (by go_simp) fun K0 hK => ld_vpin _ _ a rfl rfl A0.out (hK _ _ ?_)
    clear hK
    go_wp2_with ((with_reducible refine so0 ?_ ?_); (focus rfl))
    refine at9 (by go_simp) fun K0 hK => wp_build _ _ rfl _ built_z16 (hK _ _ ?_)
    clear hK
    go_wp2_with ((with_reducible refine so0 ?_ ?_); (focus rfl))
    refine at9 (by go_simp) fun K0 hK => wp_eql_dig _ _ _ rfl a.pin z16 OK.out.pinN rfl rfl rfl (hK _ _ ?_)
    clear hK
    rw [decide_eq_true H2.out]
    go_wp2_with ((with_reducible refine so0 ?_ ?_); (focus rfl))
    repeat ((with_reducible refine at8 ?_ ?_); (focus (go_simp; done)); go_wp2_with ((with_reducible refine so0 ?_ ?_); (focus rfl)))
    go_ret
    have e : z = false := Bool.eq_false_iff.2 (fun h => by have h9 := HI.out.1 h; exact h5 h9.2.2.2.2.2.1)
    exact ⟨congrArg (fun b => Ending.returned (.bool b)) e.symm, BW.out⟩
  have H5 := Hi h5
  rw [h5] at a23
  clear h5
  by_cases h6 : a.own = z16
  rotate_left
  · skip
    go_enter Try.func122, Try.ntmps122
    go_wp2_with ((with_reducible refine so0 ?_ ?_); (focus rfl))
    refine at9 (by go_simp) fun K0 hK => ld_vid _ _ a rfl rfl A0.out (hK _ _ ?_)
    clear hK
    go_wp2_with ((with_reducible refine so0 ?_ ?_); (focus rfl))
    refine at9 (by go_simp) fun K0 hK => wp_build _ _ rfl _ built_z4 (hK _ _ ?_)
    clear hK
    go_wp2_with ((with_reducible refine so0 ?_ ?_); (focus rfl))
    refine at9 (by go_simp) fun K0 hK => wp_eql_id _ _ _ rfl a.id z4 OK.out.idN rfl rfl rfl (hK _ _ ?_)
    clear hK
    rw [decide_eq_true H0.out]
    go_wp2_with ((with_reducible refine so0 ?_ ?_); (focus rfl))
    refine at9 (by go_simp) fun K0 hK => ld_vpin _ _ a rfl rfl A0.out (hK _ _ ?_)
    clear hK
    go_wp2_with ((with_reducible refine so0 ?_ ?_); (focus rfl))
    refine at9 (by go_simp) fun K0 hK => wp_build _ _ rfl _ built_z16 (hK _ _ ?_)
    clear hK
    go_wp2_with ((with_reducible refine so0 ?_ ?_); (focus rfl))
    refine at9 (by go_simp) fun K0 hK => wp_eql_dig _ _ _ rfl a.pin z16 OK.out.pinN rfl rfl rfl (hK _ _ ?_)
    clear hK
    rw [decide_eq_true H2.out]
    go_wp2_with ((with_reducible refine so0 ?_ ?_); (focus rfl))
    refine at9 (by go_simp) fun K0 hK => ld_vown _ _ a rfl rfl A0.out (hK _ _ ?_)
    clear hK
    go_wp2_with ((with_reducible refine so0 ?_ ?_); (focus rfl))
    refine at9 (by go_simp) fun K0 hK => wp_build _ _ rfl _ built_z16 (hK _ _ ?_)
    clear hK
    go_wp2_with ((with_reducible refine so0 ?_ ?_); (focus rfl))
    refine at9 (by go_simp) fun K0 hK => wp_eql_dig _ _ _ rfl a.own z16 OK.out.ownN rfl rfl rfl (hK _ _ ?_)
    clear hK
    rw [decide_eq_false h6]
    go_wp2_with ((with_reducible refine so0 ?_ ?_); (focus rfl))
    go_ret
    have e : z = false := Bool.eq_false_iff.2 (fun h => by have h9 := HI.out.1 h; exact h6 h9.2.2.2.2.2.2.1)
    exact ⟨congrArg (fun b => Ending.returned (.bool b)) e.symm, BW.out⟩
  have H6 := Hi h6
  clear h6
  cases h7 : a.gone
  rotate_left
  · rw [h7] at a40
    go_enter Try.func122, Try.ntmps122
    go_wp2_with ((with_reducible refine so0 ?_ ?_); (focus rfl))
    refine at9 (by go_simp) fun K0 hK => ld_vid _ _ a rfl rfl A0.out (hK _ _ ?_)
    clear hK
    go_wp2_with ((with_reducible refine so0 ?_ ?_); (focus rfl))
    refine at9 (by go_simp) fun K0 hK => wp_build _ _ rfl _ built_z4 (hK _ _ ?_)
    clear hK
    go_wp2_with ((with_reducible refine so0 ?_ ?_); (focus rfl))
    refine at9 (by go_simp) fun K0 hK => wp_eql_id _ _ _ rfl a.id z4 OK.out.idN rfl rfl rfl (hK _ _ ?_)
    clear hK
    rw [decide_eq_true H0.out]
    go_wp2_with ((with_reducible refine so0 ?_ ?_); (focus rfl))
    refine at9 (by go_simp) fun K0 hK => ld_vpin _ _ a rfl rfl A0.out (hK _ _ ?_)
    clear hK
    go_wp2_with ((with_reducible refine so0 ?_ ?_); (focus rfl))
    refine at9 (by go_simp) fun K0 hK => wp_build _ _ rfl _ built_z16 (hK _ _ ?_)
    clear hK
    go_wp2_with ((with_reducible refine so0 ?_ ?_); (focus rfl))
    refine at9 (by go_simp) fun K0 hK => wp_eql_dig _ _ _ rfl a.pin z16 OK.out.pinN rfl rfl rfl (hK _ _ ?_)
    clear hK
    rw [decide_eq_true H2.out]
    go_wp2_with ((with_reducible refine so0 ?_ ?_); (focus rfl))
    refine at9 (by go_simp) fun K0 hK => ld_vown _ _ a rfl rfl A0.out (hK _ _ ?_)
    clear hK
    go_wp2_with ((with_reducible refine so0 ?_ ?_); (focus rfl))
    refine at9 (by go_simp) fun K0 hK => wp_build _ _ rfl _ built_z16 (hK _ _ ?_)
    clear hK
    go_wp2_with ((with_reducible refine so0 ?_ ?_); (focus rfl))
    refine at9 (by go_simp) fun K0 hK => wp_eql_dig _ _ _ rfl a.own z16 OK.out.ownN rfl rfl rfl (hK _ _ ?_)
    clear hK
    rw [decide_eq_true H6.out]
    go_wp2_with ((with_reducible refine so0 ?_ ?_); (focus rfl))
    go_ret
    have e : z = false := Bool.eq_false_iff.2 (fun h => by have h9 := HI.out.1 h; have := h9.2.2.2.2.2.2.2.1; rw [h7] at this; cases this)
    exact ⟨congrArg (fun b => Ending.returned (.bool b)) e.symm, BW.out⟩
  rw [h7] at a40
  cases h8 : a.wiped
  · rw [h8] at a41
    go_enter Try.func122, Try.ntmps122
    go_wp2_with ((with_reducible refine so0 ?_ ?_); (focus rfl))
    refine at9 (by go_simp) fun K0 hK => ld_vid _ _ a rfl rfl A0.out (hK _ _ ?_)
    clear hK
    go_wp2_with ((with_reducible refine so0 ?_ ?_); (focus rfl))
    refine at9 (by go_simp) fun K0 hK => wp_build _ _ rfl _ built_z4 (hK _ _ ?_)
    clear hK
    go_wp2_with ((with_reducible refine so0 ?_ ?_); (focus rfl))
    refine at9 (by go_simp) fun K0 hK => wp_eql_id _ _ _ rfl a.id z4 OK.out.idN rfl rfl rfl (hK _ _ ?_)
    clear hK
    rw [decide_eq_true H0.out]
    go_wp2_with ((with_reducible refine so0 ?_ ?_); (focus rfl))
    refine at9 (by go_simp) fun K0 hK => ld_vpin _ _ a rfl rfl A0.out (hK _ _ ?_)
    clear hK
    go_wp2_with ((with_reducible refine so0 ?_ ?_); (focus rfl))
    refine at9 (by go_simp) fun K0 hK => wp_build _ _ rfl _ built_z16 (hK _ _ ?_)
    clear hK
    go_wp2_with ((with_reducible refine so0 ?_ ?_); (focus rfl))
    refine at9 (by go_simp) fun K0 hK => wp_eql_dig _ _ _ rfl a.pin z16 OK.out.pinN rfl rfl rfl (hK _ _ ?_)
    clear hK
    rw [decide_eq_true H2.out]
    go_wp2_with ((with_reducible refine so0 ?_ ?_); (focus rfl))
    refine at9 (by go_simp) fun K0 hK => ld_vown _ _ a rfl rfl A0.out (hK _ _ ?_)
    clear hK
    go_wp2_with ((with_reducible refine so0 ?_ ?_); (focus rfl))
    refine at9 (by go_simp) fun K0 hK => wp_build _ _ rfl _ built_z16 (hK _ _ ?_)
    clear hK
    go_wp2_with ((with_reducible refine so0 ?_ ?_); (focus rfl))
    refine at9 (by go_simp) fun K0 hK => wp_eql_dig _ _ _ rfl a.own z16 OK.out.ownN rfl rfl rfl (hK _ _ ?_)
    clear hK
    rw [decide_eq_true H6.out]
    go_wp2_with ((with_reducible refine so0 ?_ ?_); (focus rfl))
    go_ret
    have e : z = true := HI.out.2 ⟨H0.out, H1.out, H2.out, H3.out, H4.out, H5.out, H6.out, h7, h8⟩
    exact ⟨congrArg (fun b => Ending.returned (.bool b)) e.symm, BW.out⟩
  rw [h8] at a41
  go_enter Try.func122, Try.ntmps122
  go_wp2_with ((with_reducible refine so0 ?_ ?_); (focus rfl))
  refine at9 (by go_simp) fun K0 hK => ld_vid _ _ a rfl rfl A0.out (hK _ _ ?_)
  clear hK
  go_wp2_with ((with_reducible refine so0 ?_ ?_); (focus rfl))
  refine at9 (by go_simp) fun K0 hK => wp_build _ _ rfl _ built_z4 (hK _ _ ?_)
  clear hK
  go_wp2_with ((with_reducible refine so0 ?_ ?_); (focus rfl))
  refine at9 (by go_simp) fun K0 hK => wp_eql_id _ _ _ rfl a.id z4 OK.out.idN rfl rfl rfl (hK _ _ ?_)
  clear hK
  rw [decide_eq_true H0.out]
  go_wp2_with ((with_reducible refine so0 ?_ ?_); (focus rfl))
  refine at9 (by go_simp) fun K0 hK => ld_vpin _ _ a rfl rfl A0.out (hK _ _ ?_)
  clear hK
  go_wp2_with ((with_reducible refine so0 ?_ ?_); (focus rfl))
  refine at9 (by go_simp) fun K0 hK => wp_build _ _ rfl _ built_z16 (hK _ _ ?_)
  clear hK
  go_wp2_with ((with_reducible refine so0 ?_ ?_); (focus rfl))
  refine at9 (by go_simp) fun K0 hK => wp_eql_dig _ _ _ rfl a.pin z16 OK.out.pinN rfl rfl rfl (hK _ _ ?_)
  clear hK
  rw [decide_eq_true H2.out]
  go_wp2_with ((with_reducible refine so0 ?_ ?_); (focus rfl))
  refine at9 (by go_simp) fun K0 hK => ld_vown _ _ a rfl rfl A0.out (hK _ _ ?_)
  clear hK
  go_wp2_with ((with_reducible refine so0 ?_ ?_); (focus rfl))
  refine at9 (by go_simp) fun K0 hK => wp_build _ _ rfl _ built_z16 (hK _ _ ?_)
  clear hK
  go_wp2_with ((with_reducible refine so0 ?_ ?_); (focus rfl))
  refine at9 (by go_simp) fun K0 hK => wp_eql_dig _ _ _ rfl a.own z16 OK.out.ownN rfl rfl rfl (hK _ _ ?_)
  clear hK
  rw [decide_eq_true H6.out]
  go_wp2_with ((with_reducible refine so0 ?_ ?_); (focus rfl))
  go_ret
  have e : z = false := Bool.eq_false_iff.2 (fun h => by have h9 := HI.out.1 h; have := h9.2.2.2.2.2.2.2.2; rw [h8] at this; cases this)
  exact ⟨congrArg (fun b => Ending.returned (.bool b)) e.symm, BW.out⟩
theorem rrr_keep (x : Rk) (hk : x.kind = 1) (w : World) (hx : x.In w) : Calls Try.prog 88 #[x.V] w (BPost x.keepR w) := by
  obtain ⟨cs, hcs⟩ : ∃ cs, cs = x.C.toArray := ⟨_, rfl⟩
  have A0 : Hid (KB9 (w.alloc (.cells cs 39)) w.heap.size x) := Hi ⟨hx.v.ok, by rw [hcs]; exact Bk.new rfl _ _⟩
  have B0 : Hid (Ex w (w.alloc (.cells cs 39))) := Hi (Ex.alloc _ _)
  rw [show (Calls Try.prog 88 #[x.V] w) = (Calls Try.prog 88 #[.agg cs] w) by rw [hcs]; rfl]
  have HX := Hi hx
  clear hcs hx
  obtain ⟨c0, c1, c2, c3, c46⟩ := A0.out.cells
  rw [hk] at c0
  have HK := Hi hk
  clear hk
  go_enter Try.func88, Try.ntmps88
  obtain ⟨b1, hb1⟩ : ∃ b : Bool, b = decide (0 ≤ x.shard ∧ x.shard < 16) := ⟨_, rfl⟩
  have HB1 := Hi hb1
  clear hb1
  obtain ⟨b2, hb2⟩ : ∃ b : Bool, b = decide (1 ≤ x.ep ∧ x.ep ≤ 1099511627776) := ⟨_, rfl⟩
  have HB2 := Hi hb2
  clear hb2
  obtain ⟨b3, hb3⟩ : ∃ b : Bool, b = decide (0 ≤ x.tw ∧ x.tw < 8) := ⟨_, rfl⟩
  have HB3 := Hi hb3
  clear hb3
  go_upto_region 1 with fail
  change Code.wp _ _ _ _ (w.alloc (.cells cs 39))
  generalize hw1 : w.alloc (.cells cs 39) = w1 at *
  clear hw1
  obtain ⟨B, hB⟩ : ∃ B, B = w.heap.size := ⟨_, rfl⟩
  rw [← hB] at A0 c0 c1 c2 c3 c46 ⊢
  have HB := Hi hB
  clear hB
  go_cut [3] (fun v wd => v = .bool b1 ∧ wd = w1)
  case first =>
    by_cases k0 : 0 ≤ x.shard
    · by_cases k1 : x.shard < 16
      · skip
        go_wp2_with fail
        go_meet
        case rel => exact ⟨congrArg Value.bool (by rw [HB1.out]; first | exact (decide_eq_true (p := 0 ≤ x.shard ∧ x.shard < 16) (by omega)).symm | exact decide_eq_decide.2 (Iff.intro (fun h => And.intro k0 h) (fun h => And.right h))), rfl⟩
      skip
      go_wp2_with fail
      go_meet
      case rel => exact ⟨congrArg Value.bool (by rw [HB1.out]; first | exact (decide_eq_false (p := 0 ≤ x.shard ∧ x.shard < 16) (fun h => by omega)).symm | exact decide_eq_decide.2 (Iff.intro (fun h => And.intro k0 h) (fun h => And.right h))), rfl⟩
    skip
    go_wp2_with fail
    go_meet
    case rel => exact ⟨congrArg Value.bool (by rw [HB1.out]; exact (decide_eq_false (p := 0 ≤ x.shard ∧ x.shard < 16) (fun h => by omega)).symm), rfl⟩
  case rest =>
  obtain ⟨rfl, hw9⟩ := hcut
  replace hw9 := hw9.symm
  subst hw9
  go_upto_region 2 with fail
  go_cut [4] (fun v wd => v = .bool b2 ∧ wd = w1)
  case first =>
    by_cases k0 : 1 ≤ x.ep
    · skip
      go_wp2_with fail
      refine (rnum_any x.ep w1).mono ?_
      rintro e w2 ⟨rfl, rfl⟩
      go_wp2_with fail
      go_meet
      case rel => exact ⟨congrArg Value.bool (by rw [HB2.out]; exact decide_eq_decide.2 (Iff.intro (fun h => And.intro k0 h) (fun h => And.right h))), rfl⟩
    skip
    go_wp2_with fail
    go_meet
    case rel => exact ⟨congrArg Value.bool (by rw [HB2.out]; exact (decide_eq_false (p := 1 ≤ x.ep ∧ x.ep ≤ 1099511627776) (fun h => by omega)).symm), rfl⟩
  case rest =>
  obtain ⟨rfl, hw9⟩ := hcut
  replace hw9 := hw9.symm
  subst hw9
  go_upto_region 3 with fail
  go_cut [5] (fun v wd => v = .bool b3 ∧ wd = w1)
  case first =>
    by_cases k0 : 0 ≤ x.tw
    · by_cases k1 : x.tw < 8
      · skip
        go_wp2_with fail
        go_meet
        case rel => exact ⟨congrArg Value.bool (by rw [HB3.out]; first | exact (decide_eq_true (p := 0 ≤ x.tw ∧ x.tw < 8) (by omega)).symm | exact decide_eq_decide.2 (Iff.intro (fun h => And.intro k0 h) (fun h => And.right h))), rfl⟩
      skip
      go_wp2_with fail
      go_meet
      case rel => exact ⟨congrArg Value.bool (by rw [HB3.out]; first | exact (decide_eq_false (p := 0 ≤ x.tw ∧ x.tw < 8) (fun h => by omega)).symm | exact decide_eq_decide.2 (Iff.intro (fun h => And.intro k0 h) (fun h => And.right h))), rfl⟩
    skip
    go_wp2_with fail
    go_meet
    case rel => exact ⟨congrArg Value.bool (by rw [HB3.out]; exact (decide_eq_false (p := 0 ≤ x.tw ∧ x.tw < 8) (fun h => by omega)).symm), rfl⟩
  case rest =>
  obtain ⟨rfl, hw9⟩ := hcut
  replace hw9 := hw9.symm
  subst hw9
  go_wp2_with ((with_reducible refine so0 ?_ ?_); (focus rfl))
  (with_reducible refine ⟨?_⟩)
  (with_reducible refine at_any ?_ ?_); (focus go_simp); refine fun K0 hK => ld_rkv _ B x rfl rfl A0.out (hK _ _ ?_)
  clear hK
  go_wp2_with fail
  have HR : Hid (∃ b, b = x.v.ct.right) := Hi ⟨_, rfl⟩
  obtain ⟨b, hb⟩ := HR.out
  refine (rright_any x.v w1 (HX.out.v.ext B0.out)).mono ?_
  rintro e w2 ⟨rfl, x2⟩
  rw [← hb]
  have HBR := Hi hb
  replace A0 := Hi (A0.out.ext x2)
  replace B0 := Hi (Ex.trans B0.out x2)
  clear hb x2 HR c0 c1 c2 c3 c46
  obtain ⟨c0, c1, c2, c3, c46⟩ := A0.out.cells
  obtain ⟨n, hn⟩ : ∃ n, n = x.l.length := ⟨_, rfl⟩
  rw [← hn] at c46
  have HN := Hi hn
  clear hn
  cases b
  · skip
    go_wp2_with fail
    go_ret
    exact ⟨false, rfl, ⟨(fun h => by cases h), fun h => absurd (HBR.out.trans h.1) (by decide)⟩, B0.out⟩
  skip
  by_cases h0 : x.shard = 0
  · by_cases h1 : x.tw = 0
    · by_cases h2 : x.ep = 0
      · by_cases h3 : (n : Int) = 0
        · go_wp2_with fail
          go_ret
          exact ⟨true, rfl, ⟨fun _ => ⟨HBR.out.symm, h0, h1, h2, HN.out.symm.trans (by omega)⟩, fun _ => rfl⟩, B0.out⟩
        skip
        go_wp2_with fail
        go_ret
        exact ⟨_, rfl, ⟨(fun h => absurd (eq_of_beq h) h3), fun h => absurd (HN.out.trans h.2.2.2.2) (by omega)⟩, B0.out⟩
      skip
      go_wp2_with fail
      go_ret
      exact ⟨false, rfl, ⟨(fun h => by cases h), fun h => absurd h.2.2.2.1 (by omega)⟩, B0.out⟩
    skip
    go_wp2_with fail
    go_ret
    exact ⟨false, rfl, ⟨(fun h => by cases h), fun h => absurd h.2.2.1 (by omega)⟩, B0.out⟩
  skip
  go_wp2_with fail
  go_ret
  exact ⟨false, rfl, ⟨(fun h => by cases h), fun h => absurd h.2.1 (by omega)⟩, B0.out⟩
theorem rrr_out (x : Rk) (hk : x.kind = 2) (w : World) (hx : x.In w) : Calls Try.prog 88 #[x.V] w (BPost x.outR w) := by
  obtain ⟨cs, hcs⟩ : ∃ cs, cs = x.C.toArray := ⟨_, rfl⟩
  have A0 : Hid (KB9 (w.alloc (.cells cs 39)) w.heap.size x) := Hi ⟨hx.v.ok, by rw [hcs]; exact Bk.new rfl _ _⟩
  have B0 : Hid (Ex w (w.alloc (.cells cs 39))) := Hi (Ex.alloc _ _)
  rw [show (Calls Try.prog 88 #[x.V] w) = (Calls Try.prog 88 #[.agg cs] w) by rw [hcs]; rfl]
  have HX := Hi hx
  clear hcs hx
  obtain ⟨c0, c1, c2, c3, c46⟩ := A0.out.cells
  rw [hk] at c0
  have HK := Hi hk
  clear hk
  go_enter Try.func88, Try.ntmps88
  obtain ⟨b1, hb1⟩ : ∃ b : Bool, b = decide (0 ≤ x.shard ∧ x.shard < 16) := ⟨_, rfl⟩
  have HB1 := Hi hb1
  clear hb1
  obtain ⟨b2, hb2⟩ : ∃ b : Bool, b = decide (1 ≤ x.ep ∧ x.ep ≤ 1099511627776) := ⟨_, rfl⟩
  have HB2 := Hi hb2
  clear hb2
  obtain ⟨b3, hb3⟩ : ∃ b : Bool, b = decide (0 ≤ x.tw ∧ x.tw < 8) := ⟨_, rfl⟩
  have HB3 := Hi hb3
  clear hb3
  go_upto_region 1 with fail
  change Code.wp _ _ _ _ (w.alloc (.cells cs 39))
  generalize hw1 : w.alloc (.cells cs 39) = w1 at *
  clear hw1
  obtain ⟨B, hB⟩ : ∃ B, B = w.heap.size := ⟨_, rfl⟩
  rw [← hB] at A0 c0 c1 c2 c3 c46 ⊢
  have HB := Hi hB
  clear hB
  go_cut [3] (fun v wd => v = .bool b1 ∧ wd = w1)
  case first =>
    by_cases k0 : 0 ≤ x.shard
    · by_cases k1 : x.shard < 16
      · skip
        go_wp2_with fail
        go_meet
        case rel => exact ⟨congrArg Value.bool (by rw [HB1.out]; first | exact (decide_eq_true (p := 0 ≤ x.shard ∧ x.shard < 16) (by omega)).symm | exact decide_eq_decide.2 (Iff.intro (fun h => And.intro k0 h) (fun h => And.right h))), rfl⟩
      skip
      go_wp2_with fail
      go_meet
      case rel => exact ⟨congrArg Value.bool (by rw [HB1.out]; first | exact (decide_eq_false (p := 0 ≤ x.shard ∧ x.shard < 16) (fun h => by omega)).symm | exact decide_eq_decide.2 (Iff.intro (fun h => And.intro k0 h) (fun h => And.right h))), rfl⟩
    skip
    go_wp2_with fail
    go_meet
    case rel => exact ⟨congrArg Value.bool (by rw [HB1.out]; exact (decide_eq_false (p := 0 ≤ x.shard ∧ x.shard < 16) (fun h => by omega)).symm), rfl⟩
  case rest =>
  obtain ⟨rfl, hw9⟩ := hcut
  replace hw9 := hw9.symm
  subst hw9
  go_upto_region 2 with fail
  go_cut [4] (fun v wd => v = .bool b2 ∧ wd = w1)
  case first =>
    by_cases k0 : 1 ≤ x.ep
    · skip
      go_wp2_with fail
      refine (rnum_any x.ep w1).mono ?_
      rintro e w2 ⟨rfl, rfl⟩
      go_wp2_with fail
      go_meet
      case rel => exact ⟨congrArg Value.bool (by rw [HB2.out]; exact decide_eq_decide.2 (Iff.intro (fun h => And.intro k0 h) (fun h => And.right h))), rfl⟩
    skip
    go_wp2_with fail
    go_meet
    case rel => exact ⟨congrArg Value.bool (by rw [HB2.out]; exact (decide_eq_false (p := 1 ≤ x.ep ∧ x.ep ≤ 1099511627776) (fun h => by omega)).symm), rfl⟩
  case rest =>
  obtain ⟨rfl, hw9⟩ := hcut
  replace hw9 := hw9.symm
  subst hw9
  go_upto_region 3 with fail
  go_cut [5] (fun v wd => v = .bool b3 ∧ wd = w1)
  case first =>
    by_cases k0 : 0 ≤ x.tw
    · by_cases k1 : x.tw < 8
      · skip
        go_wp2_with fail
        go_meet
        case rel => exact ⟨congrArg Value.bool (by rw [HB3.out]; first | exact (decide_eq_true (p := 0 ≤ x.tw ∧ x.tw < 8) (by omega)).symm | exact decide_eq_decide.2 (Iff.intro (fun h => And.intro k0 h) (fun h => And.right h))), rfl⟩
      skip
      go_wp2_with fail
      go_meet
      case rel => exact ⟨congrArg Value.bool (by rw [HB3.out]; first | exact (decide_eq_false (p := 0 ≤ x.tw ∧ x.tw < 8) (fun h => by omega)).symm | exact decide_eq_decide.2 (Iff.intro (fun h => And.intro k0 h) (fun h => And.right h))), rfl⟩
    skip
    go_wp2_with fail
    go_meet
    case rel => exact ⟨congrArg Value.bool (by rw [HB3.out]; exact (decide_eq_false (p := 0 ≤ x.tw ∧ x.tw < 8) (fun h => by omega)).symm), rfl⟩
  case rest =>
  obtain ⟨rfl, hw9⟩ := hcut
  replace hw9 := hw9.symm
  subst hw9
  cases b1
  · go_wp2_with fail
    go_ret
    exact ⟨false, rfl, ⟨(fun h => by cases h), fun h => absurd (HB1.out.trans (decide_eq_true ⟨h.1.1, h.1.2.1⟩)) (by decide)⟩, B0.out⟩
  have k1 := of_decide_eq_true HB1.out.symm
  have K1 := Hi k1
  clear k1
  cases b2
  · go_wp2_with fail
    go_ret
    exact ⟨false, rfl, ⟨(fun h => by cases h), fun h => absurd (HB2.out.trans (decide_eq_true ⟨h.1.2.2.1, h.1.2.2.2.1⟩)) (by decide)⟩, B0.out⟩
  have k1 := of_decide_eq_true HB2.out.symm
  have K2 := Hi k1
  clear k1
  cases b3
  · go_wp2_with fail
    go_ret
    exact ⟨false, rfl, ⟨(fun h => by cases h), fun h => absurd (HB3.out.trans (decide_eq_true ⟨h.2.1, h.2.2.1⟩)) (by decide)⟩, B0.out⟩
  have k1 := of_decide_eq_true HB3.out.symm
  have K3 := Hi k1
  clear k1
  go_wp2_with ((with_reducible refine so0 ?_ ?_); (focus rfl))
  (with_reducible refine ⟨?_⟩)
  (with_reducible refine at_any ?_ ?_); (focus go_simp); refine fun K0 hK => ld_rkv _ B x rfl rfl A0.out (hK _ _ ?_)
  clear hK
  go_wp2_with fail
  refine (nothing_any x.v w1 (HX.out.v.ext B0.out)).mono ?_
  rintro e w2 ⟨rfl, x2⟩
  replace A0 := Hi (A0.out.ext x2)
  replace B0 := Hi (Ex.trans B0.out x2)
  clear x2 c0 c1 c2 c3 c46
  obtain ⟨c0, c1, c2, c3, c46⟩ := A0.out.cells
  by_cases hv : x.v.ct = zeroVc
  · rw [decide_eq_true hv]
    have HV := Hi hv
    clear hv
    obtain ⟨n, hn⟩ : ∃ n, n = x.l.length := ⟨_, rfl⟩
    rw [← hn] at c46
    have HN := Hi hn
    clear hn
    go_wp2_with fail
    go_ret
    exact ⟨_, rfl, ⟨fun h => ⟨⟨K1.out.1, K1.out.2, K2.out.1, K2.out.2, HV.out⟩, K3.out.1, K3.out.2, HN.out.symm.trans (by have := eq_of_beq h; omega)⟩, fun h => beq_iff_eq.2 (by have := HN.out.trans (h.2.2.2); omega)⟩, B0.out⟩
  rw [decide_eq_false hv]
  go_wp2_with fail
  go_ret
  exact ⟨false, rfl, ⟨(fun h => by cases h), fun h => absurd h.1.2.2.2.2 hv⟩, B0.out⟩
theorem rrr_in (x : Rk) (hk : x.kind = 3) (w : World) (hx : x.In w) : Calls Try.prog 88 #[x.V] w (BPost x.inR w) := by
  obtain ⟨cs, hcs⟩ : ∃ cs, cs = x.C.toArray := ⟨_, rfl⟩
  have A0 : Hid (KB9 (w.alloc (.cells cs 39)) w.heap.size x) := Hi ⟨hx.v.ok, by rw [hcs]; exact Bk.new rfl _ _⟩
  have B0 : Hid (Ex w (w.alloc (.cells cs 39))) := Hi (Ex.alloc _ _)
  rw [show (Calls Try.prog 88 #[x.V] w) = (Calls Try.prog 88 #[.agg cs] w) by rw [hcs]; rfl]
  have HX := Hi hx
  clear hcs hx
  obtain ⟨c0, c1, c2, c3, c46⟩ := A0.out.cells
  rw [hk] at c0
  have HK := Hi hk
  clear hk
  go_enter Try.func88, Try.ntmps88
  obtain ⟨b1, hb1⟩ : ∃ b : Bool, b = decide (0 ≤ x.shard ∧ x.shard < 16) := ⟨_, rfl⟩
  have HB1 := Hi hb1
  clear hb1
  obtain ⟨b2, hb2⟩ : ∃ b : Bool, b = decide (1 ≤ x.ep ∧ x.ep ≤ 1099511627776) := ⟨_, rfl⟩
  have HB2 := Hi hb2
  clear hb2
  obtain ⟨b3, hb3⟩ : ∃ b : Bool, b = decide (0 ≤ x.tw ∧ x.tw < 8) := ⟨_, rfl⟩
  have HB3 := Hi hb3
  clear hb3
  go_upto_region 1 with fail
  change Code.wp _ _ _ _ (w.alloc (.cells cs 39))
  generalize hw1 : w.alloc (.cells cs 39) = w1 at *
  clear hw1
  obtain ⟨B, hB⟩ : ∃ B, B = w.heap.size := ⟨_, rfl⟩
  rw [← hB] at A0 c0 c1 c2 c3 c46 ⊢
  have HB := Hi hB
  clear hB
  go_cut [3] (fun v wd => v = .bool b1 ∧ wd = w1)
  case first =>
    by_cases k0 : 0 ≤ x.shard
    · by_cases k1 : x.shard < 16
      · skip
        go_wp2_with fail
        go_meet
        case rel => exact ⟨congrArg Value.bool (by rw [HB1.out]; first | exact (decide_eq_true (p := 0 ≤ x.shard ∧ x.shard < 16) (by omega)).symm | exact decide_eq_decide.2 (Iff.intro (fun h => And.intro k0 h) (fun h => And.right h))), rfl⟩
      skip
      go_wp2_with fail
      go_meet
      case rel => exact ⟨congrArg Value.bool (by rw [HB1.out]; first | exact (decide_eq_false (p := 0 ≤ x.shard ∧ x.shard < 16) (fun h => by omega)).symm | exact decide_eq_decide.2 (Iff.intro (fun h => And.intro k0 h) (fun h => And.right h))), rfl⟩
    skip
    go_wp2_with fail
    go_meet
    case rel => exact ⟨congrArg Value.bool (by rw [HB1.out]; exact (decide_eq_false (p := 0 ≤ x.shard ∧ x.shard < 16) (fun h => by omega)).symm), rfl⟩
  case rest =>
  obtain ⟨rfl, hw9⟩ := hcut
  replace hw9 := hw9.symm
  subst hw9
  go_upto_region 2 with fail
  go_cut [4] (fun v wd => v = .bool b2 ∧ wd = w1)
  case first =>
    by_cases k0 : 1 ≤ x.ep
    · skip
      go_wp2_with fail
      refine (rnum_any x.ep w1).mono ?_
      rintro e w2 ⟨rfl, rfl⟩
      go_wp2_with fail
      go_meet
      case rel => exact ⟨congrArg Value.bool (by rw [HB2.out]; exact decide_eq_decide.2 (Iff.intro (fun h => And.intro k0 h) (fun h => And.right h))), rfl⟩
    skip
    go_wp2_with fail
    go_meet
    case rel => exact ⟨congrArg Value.bool (by rw [HB2.out]; exact (decide_eq_false (p := 1 ≤ x.ep ∧ x.ep ≤ 1099511627776) (fun h => by omega)).symm), rfl⟩
  case rest =>
  obtain ⟨rfl, hw9⟩ := hcut
  replace hw9 := hw9.symm
  subst hw9
  go_upto_region 3 with fail
  go_cut [5] (fun v wd => v = .bool b3 ∧ wd = w1)
  case first =>
    by_cases k0 : 0 ≤ x.tw
    · by_cases k1 : x.tw < 8
      · skip
        go_wp2_with fail
        go_meet
        case rel => exact ⟨congrArg Value.bool (by rw [HB3.out]; first | exact (decide_eq_true (p := 0 ≤ x.tw ∧ x.tw < 8) (by omega)).symm | exact decide_eq_decide.2 (Iff.intro (fun h => And.intro k0 h) (fun h => And.right h))), rfl⟩
      skip
      go_wp2_with fail
      go_meet
      case rel => exact ⟨congrArg Value.bool (by rw [HB3.out]; first | exact (decide_eq_false (p := 0 ≤ x.tw ∧ x.tw < 8) (fun h => by omega)).symm | exact decide_eq_decide.2 (Iff.intro (fun h => And.intro k0 h) (fun h => And.right h))), rfl⟩
    skip
    go_wp2_with fail
    go_meet
    case rel => exact ⟨congrArg Value.bool (by rw [HB3.out]; exact (decide_eq_false (p := 0 ≤ x.tw ∧ x.tw < 8) (fun h => by omega)).symm), rfl⟩
  case rest =>
  obtain ⟨rfl, hw9⟩ := hcut
  replace hw9 := hw9.symm
  subst hw9
  cases b1
  · go_wp2_with fail
    go_ret
    exact ⟨false, rfl, ⟨(fun h => by cases h), fun h => absurd (HB1.out.trans (decide_eq_true ⟨h.1.1, h.1.2.1⟩)) (by decide)⟩, B0.out⟩
  have k1 := of_decide_eq_true HB1.out.symm
  have K1 := Hi k1
  clear k1
  cases b2
  · go_wp2_with fail
    go_ret
    exact ⟨false, rfl, ⟨(fun h => by cases h), fun h => absurd (HB2.out.trans (decide_eq_true ⟨h.1.2.2.1, h.1.2.2.2.1⟩)) (by decide)⟩, B0.out⟩
  have k1 := of_decide_eq_true HB2.out.symm
  have K2 := Hi k1
  clear k1
  by_cases ht : x.tw = 0
  rotate_left
  · skip
    go_wp2_with fail
    go_ret
    exact ⟨false, rfl, ⟨(fun h => by cases h), fun h => absurd h.2.1 ht⟩, B0.out⟩
  have K3 := Hi ht
  go_wp2_with ((with_reducible refine so0 ?_ ?_); (focus rfl))
  (with_reducible refine ⟨?_⟩)
  (with_reducible refine at_any ?_ ?_); (focus go_simp); refine fun K0 hK => ld_rkv _ B x rfl rfl A0.out (hK _ _ ?_)
  clear hK
  go_wp2_with fail
  refine (nothing_any x.v w1 (HX.out.v.ext B0.out)).mono ?_
  rintro e w2 ⟨rfl, x2⟩
  replace A0 := Hi (A0.out.ext x2)
  replace B0 := Hi (Ex.trans B0.out x2)
  clear x2 c0 c1 c2 c3 c46
  obtain ⟨c0, c1, c2, c3, c46⟩ := A0.out.cells
  by_cases hv : x.v.ct = zeroVc
  · rw [decide_eq_true hv]
    have HV := Hi hv
    clear hv
    go_wp2_with fail
    refine (rising_any x.ad x.cap x.l HX.out.cap w2 (HX.out.ext B0.out).inn (HX.out.ext B0.out).ins).mono ?_
    rintro e w3 ⟨b, rfl, hb, x3⟩
    replace B0 := Hi (Ex.trans B0.out x3)
    have HBR := Hi hb
    clear hb x3
    go_wp2_with fail
    go_ret
    exact ⟨b, rfl, ⟨fun h => ⟨⟨K1.out.1, K1.out.2, K2.out.1, K2.out.2, HV.out⟩, K3.out, HBR.out.1 h⟩, fun h => HBR.out.2 h.2.2⟩, B0.out⟩
  rw [decide_eq_false hv]
  go_wp2_with fail
  go_ret
  exact ⟨false, rfl, ⟨(fun h => by cases h), fun h => absurd h.1.2.2.2.2 hv⟩, B0.out⟩
theorem rrr_done (x : Rk) (hk : x.kind = 4) (w : World) (hx : x.In w) : Calls Try.prog 88 #[x.V] w (BPost x.doneR w) := by
  obtain ⟨cs, hcs⟩ : ∃ cs, cs = x.C.toArray := ⟨_, rfl⟩
  have A0 : Hid (KB9 (w.alloc (.cells cs 39)) w.heap.size x) := Hi ⟨hx.v.ok, by rw [hcs]; exact Bk.new rfl _ _⟩
  have B0 : Hid (Ex w (w.alloc (.cells cs 39))) := Hi (Ex.alloc _ _)
  rw [show (Calls Try.prog 88 #[x.V] w) = (Calls Try.prog 88 #[.agg cs] w) by rw [hcs]; rfl]
  have HX := Hi hx
  clear hcs hx
  obtain ⟨c0, c1, c2, c3, c46⟩ := A0.out.cells
  rw [hk] at c0
  have HK := Hi hk
  clear hk
  go_enter Try.func88, Try.ntmps88
  obtain ⟨b1, hb1⟩ : ∃ b : Bool, b = decide (0 ≤ x.shard ∧ x.shard < 16) := ⟨_, rfl⟩
  have HB1 := Hi hb1
  clear hb1
  obtain ⟨b2, hb2⟩ : ∃ b : Bool, b = decide (1 ≤ x.ep ∧ x.ep ≤ 1099511627776) := ⟨_, rfl⟩
  have HB2 := Hi hb2
  clear hb2
  obtain ⟨b3, hb3⟩ : ∃ b : Bool, b = decide (0 ≤ x.tw ∧ x.tw < 8) := ⟨_, rfl⟩
  have HB3 := Hi hb3
  clear hb3
  go_upto_region 1 with fail
  change Code.wp _ _ _ _ (w.alloc (.cells cs 39))
  generalize hw1 : w.alloc (.cells cs 39) = w1 at *
  clear hw1
  obtain ⟨B, hB⟩ : ∃ B, B = w.heap.size := ⟨_, rfl⟩
  rw [← hB] at A0 c0 c1 c2 c3 c46 ⊢
  have HB := Hi hB
  clear hB
  go_cut [3] (fun v wd => v = .bool b1 ∧ wd = w1)
  case first =>
    by_cases k0 : 0 ≤ x.shard
    · by_cases k1 : x.shard < 16
      · skip
        go_wp2_with fail
        go_meet
        case rel => exact ⟨congrArg Value.bool (by rw [HB1.out]; first | exact (decide_eq_true (p := 0 ≤ x.shard ∧ x.shard < 16) (by omega)).symm | exact decide_eq_decide.2 (Iff.intro (fun h => And.intro k0 h) (fun h => And.right h))), rfl⟩
      skip
      go_wp2_with fail
      go_meet
      case rel => exact ⟨congrArg Value.bool (by rw [HB1.out]; first | exact (decide_eq_false (p := 0 ≤ x.shard ∧ x.shard < 16) (fun h => by omega)).symm | exact decide_eq_decide.2 (Iff.intro (fun h => And.intro k0 h) (fun h => And.right h))), rfl⟩
    skip
    go_wp2_with fail
    go_meet
    case rel => exact ⟨congrArg Value.bool (by rw [HB1.out]; exact (decide_eq_false (p := 0 ≤ x.shard ∧ x.shard < 16) (fun h => by omega)).symm), rfl⟩
  case rest =>
  obtain ⟨rfl, hw9⟩ := hcut
  replace hw9 := hw9.symm
  subst hw9
  go_upto_region 2 with fail
  go_cut [4] (fun v wd => v = .bool b2 ∧ wd = w1)
  case first =>
    by_cases k0 : 1 ≤ x.ep
    · skip
      go_wp2_with fail
      refine (rnum_any x.ep w1).mono ?_
      rintro e w2 ⟨rfl, rfl⟩
      go_wp2_with fail
      go_meet
      case rel => exact ⟨congrArg Value.bool (by rw [HB2.out]; exact decide_eq_decide.2 (Iff.intro (fun h => And.intro k0 h) (fun h => And.right h))), rfl⟩
    skip
    go_wp2_with fail
    go_meet
    case rel => exact ⟨congrArg Value.bool (by rw [HB2.out]; exact (decide_eq_false (p := 1 ≤ x.ep ∧ x.ep ≤ 1099511627776) (fun h => by omega)).symm), rfl⟩
  case rest =>
  obtain ⟨rfl, hw9⟩ := hcut
  replace hw9 := hw9.symm
  subst hw9
  go_upto_region 3 with fail
  go_cut [5] (fun v wd => v = .bool b3 ∧ wd = w1)
  case first =>
    by_cases k0 : 0 ≤ x.tw
    · by_cases k1 : x.tw < 8
      · skip
        go_wp2_with fail
        go_meet
        case rel => exact ⟨congrArg Value.bool (by rw [HB3.out]; first | exact (decide_eq_true (p := 0 ≤ x.tw ∧ x.tw < 8) (by omega)).symm | exact decide_eq_decide.2 (Iff.intro (fun h => And.intro k0 h) (fun h => And.right h))), rfl⟩
      skip
      go_wp2_with fail
      go_meet
      case rel => exact ⟨congrArg Value.bool (by rw [HB3.out]; first | exact (decide_eq_false (p := 0 ≤ x.tw ∧ x.tw < 8) (fun h => by omega)).symm | exact decide_eq_decide.2 (Iff.intro (fun h => And.intro k0 h) (fun h => And.right h))), rfl⟩
    skip
    go_wp2_with fail
    go_meet
    case rel => exact ⟨congrArg Value.bool (by rw [HB3.out]; exact (decide_eq_false (p := 0 ≤ x.tw ∧ x.tw < 8) (fun h => by omega)).symm), rfl⟩
  case rest =>
  obtain ⟨rfl, hw9⟩ := hcut
  replace hw9 := hw9.symm
  subst hw9
  cases b1
  · go_wp2_with fail
    go_ret
    exact ⟨false, rfl, ⟨(fun h => by cases h), fun h => absurd (HB1.out.trans (decide_eq_true ⟨h.1.1, h.1.2.1⟩)) (by decide)⟩, B0.out⟩
  have k1 := of_decide_eq_true HB1.out.symm
  have K1 := Hi k1
  clear k1
  cases b2
  · go_wp2_with fail
    go_ret
    exact ⟨false, rfl, ⟨(fun h => by cases h), fun h => absurd (HB2.out.trans (decide_eq_true ⟨h.1.2.2.1, h.1.2.2.2.1⟩)) (by decide)⟩, B0.out⟩
  have k1 := of_decide_eq_true HB2.out.symm
  have K2 := Hi k1
  clear k1
  by_cases ht : x.tw = 0
  rotate_left
  · skip
    go_wp2_with fail
    go_ret
    exact ⟨false, rfl, ⟨(fun h => by cases h), fun h => absurd h.2.1 ht⟩, B0.out⟩
  have K3 := Hi ht
  go_wp2_with ((with_reducible refine so0 ?_ ?_); (focus rfl))
  (with_reducible refine ⟨?_⟩)
  (with_reducible refine at_any ?_ ?_); (focus go_simp); refine fun K0 hK => ld_rkv _ B x rfl rfl A0.out (hK _ _ ?_)
  clear hK
  go_wp2_with fail
  refine (nothing_any x.v w1 (HX.out.v.ext B0.out)).mono ?_
  rintro e w2 ⟨rfl, x2⟩
  replace A0 := Hi (A0.out.ext x2)
  replace B0 := Hi (Ex.trans B0.out x2)
  clear x2 c0 c1 c2 c3 c46
  obtain ⟨c0, c1, c2, c3, c46⟩ := A0.out.cells
  by_cases hv : x.v.ct = zeroVc
  · rw [decide_eq_true hv]
    have HV := Hi hv
    clear hv
    obtain ⟨n, hn⟩ : ∃ n, n = x.l.length := ⟨_, rfl⟩
    rw [← hn] at c46
    have HN := Hi hn
    clear hn
    go_wp2_with fail
    go_ret
    exact ⟨_, rfl, ⟨fun h => ⟨⟨K1.out.1, K1.out.2, K2.out.1, K2.out.2, HV.out⟩, K3.out, HN.out.symm.trans (by have := eq_of_beq h; omega)⟩, fun h => beq_iff_eq.2 (by have := HN.out.trans (h.2.2); omega)⟩, B0.out⟩
  rw [decide_eq_false hv]
  go_wp2_with fail
  go_ret
  exact ⟨false, rfl, ⟨(fun h => by cases h), fun h => absurd h.1.2.2.2.2 hv⟩, B0.out⟩
theorem rrr_none (x : Rk) (hk : ¬ (x.kind = 1 ∨ x.kind = 2 ∨ x.kind = 3 ∨ x.kind = 4)) (w : World) (hx : x.In w) : Calls Try.prog 88 #[x.V] w fun e w' => e = .returned (.bool false) ∧ Ex w w' := by
  obtain ⟨cs, hcs⟩ : ∃ cs, cs = x.C.toArray := ⟨_, rfl⟩
  have A0 : Hid (KB9 (w.alloc (.cells cs 39)) w.heap.size x) := Hi ⟨hx.v.ok, by rw [hcs]; exact Bk.new rfl _ _⟩
  have B0 : Hid (Ex w (w.alloc (.cells cs 39))) := Hi (Ex.alloc _ _)
  rw [show (Calls Try.prog 88 #[x.V] w) = (Calls Try.prog 88 #[.agg cs] w) by rw [hcs]; rfl]
  have HX := Hi hx
  clear hcs hx
  obtain ⟨c0, c1, c2, c3, c46⟩ := A0.out.cells
  have k1 : ¬ x.kind = 1 := fun h => hk (Or.inl h)
  have k2 : ¬ x.kind = 2 := fun h => hk (Or.inr (Or.inl h))
  have k3 : ¬ x.kind = 3 := fun h => hk (Or.inr (Or.inr (Or.inl h)))
  have k4 : ¬ x.kind = 4 := fun h => hk (Or.inr (Or.inr (Or.inr h)))
  clear hk
  go_enter Try.func88, Try.ntmps88
  obtain ⟨b1, hb1⟩ : ∃ b : Bool, b = decide (0 ≤ x.shard ∧ x.shard < 16) := ⟨_, rfl⟩
  have HB1 := Hi hb1
  clear hb1
  obtain ⟨b2, hb2⟩ : ∃ b : Bool, b = decide (1 ≤ x.ep ∧ x.ep ≤ 1099511627776) := ⟨_, rfl⟩
  have HB2 := Hi hb2
  clear hb2
  obtain ⟨b3, hb3⟩ : ∃ b : Bool, b = decide (0 ≤ x.tw ∧ x.tw < 8) := ⟨_, rfl⟩
  have HB3 := Hi hb3
  clear hb3
  go_upto_region 1 with fail
  change Code.wp _ _ _ _ (w.alloc (.cells cs 39))
  generalize hw1 : w.alloc (.cells cs 39) = w1 at *
  clear hw1
  obtain ⟨B, hB⟩ : ∃ B, B = w.heap.size := ⟨_, rfl⟩
  rw [← hB] at A0 c0 c1 c2 c3 c46 ⊢
  have HB := Hi hB
  clear hB
  go_cut [3] (fun v wd => v = .bool b1 ∧ wd = w1)
  case first =>
    by_cases k0 : 0 ≤ x.shard
    · by_cases k1 : x.shard < 16
      · skip
        go_wp2_with fail
        go_meet
        case rel => exact ⟨congrArg Value.bool (by rw [HB1.out]; first | exact (decide_eq_true (p := 0 ≤ x.shard ∧ x.shard < 16) (by omega)).symm | exact decide_eq_decide.2 (Iff.intro (fun h => And.intro k0 h) (fun h => And.right h))), rfl⟩
      skip
      go_wp2_with fail
      go_meet
      case rel => exact ⟨congrArg Value.bool (by rw [HB1.out]; first | exact (decide_eq_false (p := 0 ≤ x.shard ∧ x.shard < 16) (fun h => by omega)).symm | exact decide_eq_decide.2 (Iff.intro (fun h => And.intro k0 h) (fun h => And.right h))), rfl⟩
    skip
    go_wp2_with fail
    go_meet
    case rel => exact ⟨congrArg Value.bool (by rw [HB1.out]; exact (decide_eq_false (p := 0 ≤ x.shard ∧ x.shard < 16) (fun h => by omega)).symm), rfl⟩
  case rest =>
  obtain ⟨rfl, hw9⟩ := hcut
  replace hw9 := hw9.symm
  subst hw9
  go_upto_region 2 with fail
  go_cut [4] (fun v wd => v = .bool b2 ∧ wd = w1)
  case first =>
    by_cases k0 : 1 ≤ x.ep
    · skip
      go_wp2_with fail
      refine (rnum_any x.ep w1).mono ?_
      rintro e w2 ⟨rfl, rfl⟩
      go_wp2_with fail
      go_meet
      case rel => exact ⟨congrArg Value.bool (by rw [HB2.out]; exact decide_eq_decide.2 (Iff.intro (fun h => And.intro k0 h) (fun h => And.right h))), rfl⟩
    skip
    go_wp2_with fail
    go_meet
    case rel => exact ⟨congrArg Value.bool (by rw [HB2.out]; exact (decide_eq_false (p := 1 ≤ x.ep ∧ x.ep ≤ 1099511627776) (fun h => by omega)).symm), rfl⟩
  case rest =>
  obtain ⟨rfl, hw9⟩ := hcut
  replace hw9 := hw9.symm
  subst hw9
  go_upto_region 3 with fail
  go_cut [5] (fun v wd => v = .bool b3 ∧ wd = w1)
  case first =>
    by_cases k0 : 0 ≤ x.tw
    · by_cases k1 : x.tw < 8
      · skip
        go_wp2_with fail
        go_meet
        case rel => exact ⟨congrArg Value.bool (by rw [HB3.out]; first | exact (decide_eq_true (p := 0 ≤ x.tw ∧ x.tw < 8) (by omega)).symm | exact decide_eq_decide.2 (Iff.intro (fun h => And.intro k0 h) (fun h => And.right h))), rfl⟩
      skip
      go_wp2_with fail
      go_meet
      case rel => exact ⟨congrArg Value.bool (by rw [HB3.out]; first | exact (decide_eq_false (p := 0 ≤ x.tw ∧ x.tw < 8) (fun h => by omega)).symm | exact decide_eq_decide.2 (Iff.intro (fun h => And.intro k0 h) (fun h => And.right h))), rfl⟩
    skip
    go_wp2_with fail
    go_meet
    case rel => exact ⟨congrArg Value.bool (by rw [HB3.out]; exact (decide_eq_false (p := 0 ≤ x.tw ∧ x.tw < 8) (fun h => by omega)).symm), rfl⟩
  case rest =>
  obtain ⟨rfl, hw9⟩ := hcut
  replace hw9 := hw9.symm
  subst hw9
  go_wp2_with fail
  go_ret
  exact ⟨rfl, B0.out⟩
end Go.Proofs.Ytmjfnpmnhehnkaa
