/- ideal: Copy -/
import Derived.Test.YtmjfnpmnhehnkaaUd
namespace Go.Proofs.Ytmjfnpmnhehnkaa
open Go.RowKit
theorem rising_ct {xs ys : List Vt} (h : ys.map Vt.ct = xs.map Vt.ct) (hx : Rising xs) : Rising ys := by
 have hl : ys.length = xs.length := by have := congrArg List.length h; simpa using this
 refine ⟨by rw [hl]; exact hx.1, fun i y hy => ?_, fun i hi => ?_⟩
 ·have e : (ys.map Vt.ct)[i]? = (xs.map Vt.ct)[i]? := by rw [h]
  rw [List.getElem?_map, List.getElem?_map, hy] at e
  cases hxi : xs[i]? with
  | none => rw [hxi] at e; cases e
  | some x =>
   rw [hxi] at e
   have e : y.ct = x.ct := by simpa using e
   rw [e]; exact hx.2.1 i x hxi
 ·rw [idF_ct h, idF_ct h]; exact hx.2.2 i (by rw [← hl]; exact hi)
/-- a table's row is made anew from another's -/
theorem fill_from {w3 : World} {D B : Nat} {rv va : Value} {vs ys : List Vt} (h : TB w3 D rv vs) (hy : VRow w3 B va ys) (hr : Rising ys) : Calls Try.prog 61 #[.pointer (some ⟨D, 0, none⟩), va] w3 fun e w4 => e = .returned (.int .i64 0) ∧ ∃ rv' zs, TB w4 D rv' zs ∧ zs.map Vt.ct = ys.map Vt.ct ∧ (∀ g, rv'.ownBlock = some g → w3.heap.size ≤ g) ∧ Kt [169] D w3 w4 ∧ Md D w3 w4 := by
 obtain ⟨ad, cap, e, hin⟩ := hy.inn
 obtain ⟨ad2, cap2, e2, _, _, hc, _⟩ := own_rd hy.row
 rw [e] at e2; cases e2
 subst e
 refine (tfill_any2 D rv vs ad cap ys hc w3 h hin (fun i x hx => (hy.ins i x hx).vi)).mono ?_
 rintro e w4 ⟨h1 | h1, h2⟩
 ·obtain ⟨_, rfl, rv', zs, a1, a2, a3, a4⟩ := h1
  exact ⟨rfl, rv', zs, a1, a2, a3, a4, h2⟩
 ·exact absurd hr h1.1
theorem IM.fill {w w3 w4 : World} {M k : Nat} {D : Nat → Nat} {r : Nat → Value} {v : Nat → List Vt} {rv' : Value} {zs : List Vt} (h : IM w3 w.heap.size M D r v) (x : Ex w w3) (hk : k < 16) (ht : TB w4 (D k) rv' zs) (hf : ∀ g, rv'.ownBlock = some g → w3.heap.size ≤ g) (k1 : Kt [169] (D k) w3 w4) (k2 : Md (D k) w3 w4) : IM w4 w.heap.size M D (updF r k rv') (updF v k zs) ∧ Ex w w4 :=
 ⟨⟨k1.bk h.blk (by decide), h.ts.fill hk ht k2 hf⟩, Below.trans x (k1.below.mono (h.ts.lo k hk))⟩
def ICopyPost (v : Nat → List Vt) (w : World) (e : Ending) (w' : World) : Prop := ∃ (M : Nat) (D : Nat → Nat) (r : Nat → Value) (v2 : Nat → List Vt), e = .returned (.pointer (some ⟨M, 0, none⟩)) ∧ IM w' w.heap.size M D r v2 ∧ w.heap.size ≤ M ∧ (∀ i, i < 16 → (v2 i).map Vt.ct = (v i).map Vt.ct) ∧ Ex w w'
set_option maxHeartbeats 4000000 in
set_option maxRecDepth 100000 in
theorem icopy_any (B M : Nat) (D : Nat → Nat) (r : Nat → Value) (v : Nat → List Vt) (hr : ∀ i, i < 16 → Rising (v i)) (w : World) (h : IM w B M D r v) : Calls Try.prog 42 #[.pointer (some ⟨M, 0, none⟩)] w (ICopyPost v w) := by
 have HIM := Lib.hid h
 have HR := Lib.hid hr
 clear h hr
 go_enter Try.func42, Try.ntmps42
 go_wp2_with (first | (with_reducible refine stop_load (t := 138) ?_))
 refine (inew_any w).mono ?_
 rintro e w1 ⟨M2, D2, r2, v2, rfl, h1, h2, -, h4⟩
 have PP := Lib.hid (And.intro h1 h4)
 have HM2 := Lib.hid h2
 clear h1 h2 h4
 go_wp2_with (first | (with_reducible refine stop_load (t := 138) ?_))
 (with_reducible refine ⟨?_⟩); (with_reducible refine at_any ?_ ?_); (focus go_simp); refine fun K0 hK => ld_pa _ M D rfl rfl (HIM.out.ext PP.out.2).blk (hK _ _ ?_)
 clear hK
 obtain ⟨pa, hpa⟩ : ∃ pa, pa = (ptrs 16 D).toArray := ⟨_, rfl⟩
 rw [← hpa]
 have HPA := Lib.hid hpa
 clear hpa
 go_wp2_with (first | (with_reducible refine stop_ix ?_))
 go_loopw [11] (fun i wr => ∃ (k : Nat) (r2 : Nat → Value) (v2 : Nat → List Vt), k ≤ 16 ∧ i = .int .i64 k ∧ Hid (IM wr w.heap.size M2 D2 r2 v2 ∧ Ex w wr ∧ ∀ i, i < k → (v2 i).map Vt.ct = (v i).map Vt.ct)) (fun i _ => 16 - (intOf i).toNat)
 case atStart => exact ⟨0, r2, v2, by omega, rfl, Lib.hid ⟨PP.out.1, PP.out.2, fun i hi => absurd hi (Nat.not_lt_zero i)⟩⟩
 case round =>
  clear PP
  clear r2 v2
  obtain ⟨k, r2, v2, hk, rfl, P⟩ := hrel
  by_cases hlt : k < 16
  ·have q0 : (0 : Int) ≤ (k : Int) := by omega
   have q1 : (k : Int) < 16 := by omega
   go_wp2_with (first | (with_reducible refine stop_ix ?_))
   (with_reducible refine ⟨?_⟩); (with_reducible refine at_any ?_ ?_); (focus go_simp); refine fun K0 hK => wp_ix _ _ D k hlt rfl (by rw [← HPA.out]; rfl) rfl (hK _ _ ?_)
   clear hK
   go_wp2_with fail
   obtain ⟨T, hT⟩ : ∃ T : List Sx, T = [.is (.pointer (some ⟨M2, 0, none⟩)), .is (.int .i64 k), .is (.pointer (some ⟨M2, 0, none⟩)), .is (.pointer (some ⟨M2, 0, none⟩)), .is (.pointer (some ⟨M2, k, none⟩)), .is (.pointer (some ⟨D2 k, 0, none⟩)), .is (.pointer (some ⟨D k, 0, none⟩)), .of (fun v9 w9 => ∃ ys : List Vt, VRow w9 wr.heap.size v9 ys ∧ ys.map Vt.ct = (v k).map Vt.ct) (fun v9 _ _ h k => by obtain ⟨ys, h1, h2⟩ := h; exact ⟨ys, h1.ext k, h2⟩), .any] := ⟨_, rfl⟩
   have HFX : T.map Sx.fixed = [true, true, true, true, true, true, true, false, true] := by rw [hT]; rfl
   have hFst : ∀ wa wb, (fun w9 => ∃ (r3 : Nat → Value) (v3 : Nat → List Vt), IM w9 w.heap.size M2 D2 r3 v3 ∧ Ex w w9 ∧ ∀ i, i < k + 1 → (v3 i).map Vt.ct = (v i).map Vt.ct) wa → Ex wa wb → (fun w9 => ∃ (r3 : Nat → Value) (v3 : Nat → List Vt), IM w9 w.heap.size M2 D2 r3 v3 ∧ Ex w w9 ∧ ∀ i, i < k + 1 → (v3 i).map Vt.ct = (v i).map Vt.ct) wb := fun _ _ h k9 => by obtain ⟨r3, v3, h1, h2, h3⟩ := h; exact ⟨r3, v3, h1.ext k9, Ex.trans h2 k9, h3⟩
   refine wp_region_gen (JE wr T ([none, none, none, none, none, none, none, some 8, none] : List (Option Nat)) ([(8, 5), (8, 7)] : List (Nat × Nat)) 8 8 (fun w9 => ∃ (r3 : Nat → Value) (v3 : Nat → List Vt), IM w9 w.heap.size M2 D2 r3 v3 ∧ Ex w w9 ∧ ∀ i, i < k + 1 → (v3 i).map Vt.ct = (v i).map Vt.ct)) (by kernel_rfl) (by kernel_rfl) (by kernel_rfl) (fitB_spec (by kernel_rfl)) (fun listed f h => JE.start listed f h) ?_ ?_
   ·intro i o ho
    have hi : i < 9 := (Array.getElem?_eq_some_iff.1 ho).1
    have hi' : i = 0 ∨ i = 1 ∨ i = 2 ∨ i = 3 ∨ i = 4 ∨ i = 5 ∨ i = 6 ∨ i = 7 ∨ i = 8 := by omega
    clear hi
    rcases hi' with rfl | rfl | rfl | rfl | rfl | rfl | rfl | rfl | rfl
    all_goals (simp only [List.getElem?_toArray, List.getElem?_cons_zero, List.getElem?_cons_succ, Option.some.injEq] at ho; subst ho; intro listed f a w3 hJ hsz hls hun hdep hout hlat)
    ·rw [if_pos (by rfl)]
     intro K hK
     have q3 := hout 3 (outB_spec (by kernel_rfl))
     have hord : ∀ x ∈ ([(8, 5), (8, 7)] : List (Nat × Nat)), x.1 = 0 → listed.getD x.2 false = true := (by intro x hx he; simp only [List.mem_cons, List.not_mem_nil, or_false] at hx; rcases hx with rfl | rfl; all_goals first | (exact absurd he (by decide)) | assumption)
     refine wp_mv _ rfl (hK _ _ ?_)
     rw [show a.eval (.tmp 3) = .pointer (some ⟨M2, 0, none⟩) from q3]
     exact hJ.plain (by rw [hls]; decide) hFst (by decide) (Ex.refl _) (by rw [hT]; rfl) hord
    ·rw [if_pos (by rfl)]
     intro K hK
     have q4 := hout 4 (outB_spec (by kernel_rfl))
     have hord : ∀ x ∈ ([(8, 5), (8, 7)] : List (Nat × Nat)), x.1 = 1 → listed.getD x.2 false = true := (by intro x hx he; simp only [List.mem_cons, List.not_mem_nil, or_false] at hx; rcases hx with rfl | rfl; all_goals first | (exact absurd he (by decide)) | assumption)
     refine wp_mv _ rfl (hK _ _ ?_)
     rw [show a.eval (.tmp 4) = .int .i64 k from q4]
     exact hJ.plain (by rw [hls]; decide) hFst (by decide) (Ex.refl _) (by rw [hT]; rfl) hord
    ·rw [if_pos (by rfl)]
     intro K hK
     have dd15 := hdep ⟨0, .data⟩ (by simp) rfl
     have q15 := dd15.2 _ rfl _ rfl
     have h15 := hJ.vals 0 dd15.1 no_c
     rw [hT] at h15
     rw [show f 0 = .pointer (some ⟨M2, 0, none⟩) from h15] at q15
     clear h15
     clear dd15
     have hord : ∀ x ∈ ([(8, 5), (8, 7)] : List (Nat × Nat)), x.1 = 2 → listed.getD x.2 false = true := (by intro x hx he; simp only [List.mem_cons, List.not_mem_nil, or_false] at hx; rcases hx with rfl | rfl; all_goals first | (exact absurd he (by decide)) | assumption)
     rw [Array.getD_eq_getD_getElem?] at q15
     clear hsz hdep hout hlat
     go_simp
     exact hK _ _ (hJ.plain (by rw [hls]; decide) hFst (by decide) (Ex.refl _) (by rw [hT]; first | rfl | exact int_eq (by omega) | exact int_eq (by rw [IntKind.wrap_i64]; omega)) hord)
    ·rw [if_pos (by rfl)]
     intro K hK
     have dd17 := hdep ⟨2, .data⟩ (by simp) rfl
     have q17 := dd17.2 _ rfl _ rfl
     have h17 := hJ.vals 2 dd17.1 no_c
     rw [hT] at h17
     rw [show f 2 = .pointer (some ⟨M2, 0, none⟩) from h17] at q17
     clear h17
     clear dd17
     have hord : ∀ x ∈ ([(8, 5), (8, 7)] : List (Nat × Nat)), x.1 = 3 → listed.getD x.2 false = true := (by intro x hx he; simp only [List.mem_cons, List.not_mem_nil, or_false] at hx; rcases hx with rfl | rfl; all_goals first | (exact absurd he (by decide)) | assumption)
     rw [Array.getD_eq_getD_getElem?] at q17
     clear hsz hdep hout hlat
     go_simp
     exact hK _ _ (hJ.plain (by rw [hls]; decide) hFst (by decide) (Ex.refl _) (by rw [hT]; first | rfl | exact int_eq (by omega) | exact int_eq (by rw [IntKind.wrap_i64]; omega)) hord)
    ·rw [if_pos (by rfl)]
     intro K hK
     have dd18 := hdep ⟨3, .data⟩ (by simp) rfl
     have q18 := dd18.2 _ rfl _ rfl
     have h18 := hJ.vals 3 dd18.1 no_c
     rw [hT] at h18
     rw [show f 3 = .pointer (some ⟨M2, 0, none⟩) from h18] at q18
     clear h18
     clear dd18
     have dd16 := hdep ⟨1, .data⟩ (by simp) rfl
     have q16 := dd16.2 _ rfl _ rfl
     have h16 := hJ.vals 1 dd16.1 no_c
     rw [hT] at h16
     rw [show f 1 = .int .i64 k from h16] at q16
     clear h16
     clear dd16
     have hord : ∀ x ∈ ([(8, 5), (8, 7)] : List (Nat × Nat)), x.1 = 4 → listed.getD x.2 false = true := (by intro x hx he; simp only [List.mem_cons, List.not_mem_nil, or_false] at hx; rcases hx with rfl | rfl; all_goals first | (exact absurd he (by decide)) | assumption)
     rw [Array.getD_eq_getD_getElem?] at q18
     rw [Array.getD_eq_getD_getElem?] at q16
     clear hsz hdep hout hlat
     go_simp
     exact hK _ _ (hJ.plain (by rw [hls]; decide) hFst (by decide) (Ex.refl _) (by rw [hT]; first | rfl | exact int_eq (by omega) | exact int_eq (by rw [IntKind.wrap_i64]; omega)) hord)
    ·rw [if_pos (by rfl)]
     intro K hK
     have dd19 := hdep ⟨4, .data⟩ (by simp) rfl
     have q19 := dd19.2 _ rfl _ rfl
     have h19 := hJ.vals 4 dd19.1 no_c
     rw [hT] at h19
     rw [show f 4 = .pointer (some ⟨M2, k, none⟩) from h19] at q19
     clear h19
     clear dd19
     have hord : ∀ x ∈ ([(8, 5), (8, 7)] : List (Nat × Nat)), x.1 = 5 → listed.getD x.2 false = true := (by intro x hx he; simp only [List.mem_cons, List.not_mem_nil, or_false] at hx; rcases hx with rfl | rfl; all_goals first | (exact absurd he (by decide)) | assumption)
     have hcut : listed.getD 8 false = false := by
      cases hc : listed.getD 8 false with
      | false => rfl
      | true =>
       have hc0 := hJ.ord (8, 5) (by simp) hc
       exact absurd hc0 (by rw [hun]; decide)
     have hpre := hJ.pre hcut
     have c6 : w3.cell? ⟨M2, k, none⟩ = some (.pointer (some ⟨D2 k, 0, none⟩)) := by rw [(P.out.1.blk.ext hpre).cell, List.getElem?_toArray]; exact ptrs_at 16 D2 k hlt hlt
     rw [Array.getD_eq_getD_getElem?] at q19
     clear hsz hdep hout hlat
     go_simp
     exact hK _ _ (hJ.plain (by rw [hls]; decide) hFst (by decide) (Ex.refl _) (by rw [hT]; rfl) hord)
    ·rw [if_pos (by rfl)]
     intro K hK
     have q5 := hout 5 (outB_spec (by kernel_rfl))
     have hord : ∀ x ∈ ([(8, 5), (8, 7)] : List (Nat × Nat)), x.1 = 6 → listed.getD x.2 false = true := (by intro x hx he; simp only [List.mem_cons, List.not_mem_nil, or_false] at hx; rcases hx with rfl | rfl; all_goals first | (exact absurd he (by decide)) | assumption)
     refine wp_mv _ rfl (hK _ _ ?_)
     rw [show a.eval (.tmp 5) = .pointer (some ⟨D k, 0, none⟩) from q5]
     exact hJ.plain (by rw [hls]; decide) hFst (by decide) (Ex.refl _) (by rw [hT]; rfl) hord
    ·rw [if_pos (by rfl)]
     intro K hK
     have dd21 := hdep ⟨6, .data⟩ (by simp) rfl
     have q21 := dd21.2 _ rfl _ rfl
     have h21 := hJ.vals 6 dd21.1 no_c
     rw [hT] at h21
     rw [show f 6 = .pointer (some ⟨D k, 0, none⟩) from h21] at q21
     clear h21
     clear dd21
     have hord : ∀ x ∈ ([(8, 5), (8, 7)] : List (Nat × Nat)), x.1 = 7 → listed.getD x.2 false = true := (by intro x hx he; simp only [List.mem_cons, List.not_mem_nil, or_false] at hx; rcases hx with rfl | rfl; all_goals first | (exact absurd he (by decide)) | assumption)
     have hcut : listed.getD 8 false = false := by
      cases hc : listed.getD 8 false with
      | false => rfl
      | true =>
       have hc0 := hJ.ord (8, 7) (by simp) hc
       exact absurd hc0 (by rw [hun]; decide)
     have hpre := hJ.pre hcut
     rw [Array.getD_eq_getD_getElem?] at q21
     clear hsz hdep hout hlat
     go_simp
     refine (tall_any (D k) (r k) (v k) w3 ((HIM.out.ext (Ex.trans P.out.2.1 hpre)).ts.tb k hlt)).mono ?_
     rintro e w4 ⟨v9, ys, rfl, h1, h2, x4⟩
     exact hK _ _ (hJ.plain (by rw [hls]; decide) hFst (by decide) x4 (by rw [hT]; exact ⟨ys, h1.less hpre.sz', h2⟩) hord)
    ·rw [if_pos (by rfl)]
     intro K hK
     have dd20 := hdep ⟨5, .data⟩ (by simp) rfl
     have q20 := dd20.2 _ rfl _ rfl
     have h20 := hJ.vals 5 dd20.1 no_c
     rw [hT] at h20
     rw [show f 5 = .pointer (some ⟨D2 k, 0, none⟩) from h20] at q20
     clear h20
     clear dd20
     have dd22 := hdep ⟨7, .data⟩ (by simp) rfl
     have q22 := dd22.2 _ rfl _ rfl
     have h22 := hJ.vals 7 dd22.1 (fun c hc => by have hc : some 8 = some c := hc; cases hc; exact hun)
     rw [hT] at h22
     have h22 : (fun v9 w9 => ∃ ys : List Vt, VRow w9 wr.heap.size v9 ys ∧ ys.map Vt.ct = (v k).map Vt.ct) (f 7) w3 := h22
     obtain ⟨ys22, r22, c22⟩ := h22
     obtain ⟨v22, e22⟩ : ∃ v, v = f 7 := ⟨_, rfl⟩
     rw [← e22] at r22 q22
     clear e22
     clear dd22
     have hl5 := (hdep ⟨5, .data⟩ (by simp) rfl).1
     have hl7 := (hdep ⟨7, .data⟩ (by simp) rfl).1
     have hord : ∀ x ∈ ([(8, 5), (8, 7)] : List (Nat × Nat)), x.1 = 8 → listed.getD x.2 false = true := (by intro x hx he; simp only [List.mem_cons, List.not_mem_nil, or_false] at hx; rcases hx with rfl | rfl; all_goals first | (exact absurd he (by decide)) | assumption)
     have hcut := hun
     have hpre := hJ.pre hcut
     have hc1 : ∀ j, j ≠ 8 → ([true, true, true, true, true, true, true, false, true] : List Bool).getD j true = false → listed.getD j false = true → ∃ c, (([none, none, none, none, none, none, none, some 8, none] : List (Option Nat))).getD j none = some c ∧ (c = 8 ∨ listed.getD c false = true) := by
      intro j hj hfj hl
      have hm : j = 7 := by
       rcases Nat.lt_or_ge j 9 with h | h
       ·have hk : j = 0 ∨ j = 1 ∨ j = 2 ∨ j = 3 ∨ j = 4 ∨ j = 5 ∨ j = 6 ∨ j = 7 ∨ j = 8 := by omega
        rcases hk with rfl | rfl | rfl | rfl | rfl | rfl | rfl | rfl | rfl <;> first | (exact absurd hfj (by decide)) | simp
       ·rw [List.getD_eq_getElem?_getD, List.getElem?_eq_none (by simpa using h)] at hfj; cases hfj
      rcases hm with rfl
      ·exact ⟨8, rfl, Or.inl rfl⟩
     rw [Array.getD_eq_getD_getElem?] at q20
     rw [Array.getD_eq_getD_getElem?] at q22
     have HC1 := Lib.hid hc1
     clear hc1
     have HHD := Lib.hid @hdep
     clear hsz hout hlat
     go_simp
     refine (fill_from ((P.out.1.ts.tb k hlt).ext hpre) r22 (rising_ct c22 (HR.out k hlt))).mono ?_
     rintro e w4 ⟨rfl, rv', zs, a1, a2, a3, a4, a5⟩
     have hc1 := HC1.out
     have hff := (P.out.1.ext hpre).fill (Ex.trans P.out.2.1 hpre) hlt a1 a3 a4 a5
     have hfin : ∃ (r3 : Nat → Value) (v3 : Nat → List Vt), IM w4 w.heap.size M2 D2 r3 v3 ∧ Ex w w4 ∧ ∀ i, i < k + 1 → (v3 i).map Vt.ct = (v i).map Vt.ct := by
      refine ⟨_, _, hff.1, hff.2, fun i hi => ?_⟩
      by_cases e : i = k
      ·rw [e, updF_same, a2, c22]
      ·rw [updF_ne _ _ e]; exact P.out.2.2 i (by omega)
     exact hK _ _ (hJ.mod (by rw [hls]; decide) HFX (by rw [hT]; exact trivial) hc1 (Or.inl rfl) (fun _ => hfin) hord)
   ·intro listed f w3 hall hJ
    have xf : (fun w9 => ∃ (r3 : Nat → Value) (v3 : Nat → List Vt), IM w9 w.heap.size M2 D2 r3 v3 ∧ Ex w w9 ∧ ∀ i, i < k + 1 → (v3 i).map Vt.ct = (v i).map Vt.ct) w3 := hJ.fin (hall 8 (by simp))
    simp only [putAll, Act.put, List.setIfInBounds_toArray, List.set_cons_zero, List.set_cons_succ, Nat.zero_add, Nat.reduceAdd]
    clear hJ hall hT HFX hFst
    generalize f 0 = y0
    generalize f 1 = y1
    generalize f 2 = y2
    generalize f 3 = y3
    generalize f 4 = y4
    generalize f 5 = y5
    generalize f 6 = y6
    generalize f 7 = y7
    generalize f 8 = y8
    obtain ⟨r3, v3, h1, h2, h3⟩ := xf
    have P2 := Lib.hid (And.intro h1 (And.intro h2 h3))
    clear P h1 h2 h3
    go_wp2_with fail
    (first | (refine ⟨?_, ?measure⟩; (repeat apply Exists.intro); refine ⟨?rel, rfl⟩) | refine ⟨?rel, ?measure⟩)
    case rel => exact ⟨k + 1, r3, v3, by omega, by go_num, P2⟩
    case measure => simp [intOf]; omega
  ·obtain rfl : k = 16 := by omega
   go_wp2_with fail
   go_ret
   exact ⟨M2, D2, r2, v2, rfl, P.out.1, HM2.out, P.out.2.2, P.out.2.1⟩
end Go.Proofs.Ytmjfnpmnhehnkaa
