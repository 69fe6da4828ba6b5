/- ideal: Get -/
import Derived.Test.YtmjfnpmnhehnkaaUc
import Derived.Test.YtmjfnpmnhehnkaaSoA
namespace Go.Proofs.Ytmjfnpmnhehnkaa
open Go.RowKit
theorem shv_range (id : List UInt8) : ∃ s : Nat, Sm.shV id = (s : Int) ∧ s < 16 := by
 refine ⟨(Sm.shV id).toNat, ?_, ?_⟩ <;> unfold Sm.shV <;> omega
theorem iof_any (id : List UInt8) (hid : id.length = 4) (s : Nat) (hs : Sm.shV id = (s : Int)) (w : World) : Calls Try.prog 59 #[digV id] w fun e w' => e = .returned (.int .i64 s) ∧ Ex w w' := by
 refine (Sm.of_any id hid w).mono ?_
 rintro e w' ⟨rfl, h⟩
 exact ⟨by rw [hs], h⟩
/-- what Get of a table tells -/
def GetDet (vs : List Vt) (X : Nat) (c : Vc) (b : Bool) : Prop := b = decide (∃ q, q < vs.length ∧ idF vs q = X) ∧ (b = true → ∃ q y, vs[q]? = some y ∧ idF vs q = X ∧ c = y.ct) ∧ (b = false → c = zeroVc)
theorem get_det (vs : List Vt) (X : Nat) : ∃ c b, GetDet vs X c b := by
 by_cases h : ∃ q, q < vs.length ∧ idF vs q = X
 ·obtain ⟨q, hq, hx⟩ := h
  exact ⟨vs[q].ct, true, by symm; exact decide_eq_true ⟨q, hq, hx⟩, fun _ => ⟨q, vs[q], List.getElem?_eq_getElem hq, hx, rfl⟩, fun h => by cases h⟩
 ·exact ⟨zeroVc, false, by symm; exact decide_eq_false h, (fun h => by cases h), fun _ => rfl⟩
def IGet (c : Vc) (b : Bool) (w : World) (e : Ending) (w' : World) : Prop := ∃ x : Vt, e = .returned (.tuple #[x.V, .bool b]) ∧ x.ct = c ∧ TVN w' x ∧ Ex w w'
theorem tget_det {D : Nat} {rv : Value} {vs : List Vt} {c : Vc} {b : Bool} (id : List UInt8) (hid : id.length = 4) (hd : GetDet vs (idn id) c b) (w : World) (h : TB w D rv vs) : Calls Try.prog 71 #[.pointer (some ⟨D, 0, none⟩), digV id] w (IGet c b w) := by
 refine (tget_any D rv vs id w h hid).mono ?_
 rintro e w' ⟨x, b2, rfl, hb, h1, h2, hn, hx⟩
 obtain rfl : b2 = b := by rw [hb, hd.1]
 refine ⟨x, rfl, ?_, hn, hx⟩
 cases b2 with
 | false => rw [h2 rfl, hd.2.2 rfl]
 | true =>
  obtain ⟨q, y, e1, e2, e3⟩ := h1 rfl
  obtain ⟨q2, y2, f1, f2, f3⟩ := hd.2.1 rfl
  have l1 := (List.getElem?_eq_some_iff.1 e1).1
  have l2 := (List.getElem?_eq_some_iff.1 f1).1
  obtain rfl : q = q2 := by
   rcases Nat.lt_trichotomy q q2 with h9 | h9 | h9
   ·have := h.srt q q2 h9 l2; omega
   ·exact h9
   ·have := h.srt q2 q h9 l1; omega
  rw [e1] at f1; cases f1
  rw [e3, f3]
set_option maxHeartbeats 4000000 in
set_option maxRecDepth 100000 in
theorem iget_any (B M : Nat) (D : Nat → Nat) (r : Nat → Value) (v : Nat → List Vt) (id : List UInt8) (hid : id.length = 4) (s : Nat) (hs : Sm.shV id = (s : Int)) (hs16 : s < 16) (c : Vc) (b : Bool) (hdet : GetDet (v s) (idn id) c b) (w : World) (h : IM w B M D r v) : Calls Try.prog 73 #[.pointer (some ⟨M, 0, none⟩), digV id] w (IGet c b w) := by
 obtain ⟨ds, hds⟩ : ∃ ds, ds = (Lib.byteCells id).toArray := ⟨_, rfl⟩
 have B0 : Hid (Bk ((w.alloc (.cells ds 32)).alloc (.cells zeroVt.C.toArray 36)) w.heap.size 32 (Lib.byteCells id).toArray) := Lib.hid (by rw [hds]; exact (Bk.new rfl _ _).more _)
 have Z0 : Hid (VB ((w.alloc (.cells ds 32)).alloc (.cells zeroVt.C.toArray 36)) (w.heap.size + 1) zeroVt) := Lib.hid ⟨zeroVt_ok, Bk.new (by simp) _ _⟩
 have BW : Hid (Ex w ((w.alloc (.cells ds 32)).alloc (.cells zeroVt.C.toArray 36))) := Lib.hid (Ex.trans (Ex.alloc w _) (Ex.alloc _ _))
 have HIM := Lib.hid (h.ext BW.out)
 have HID := Lib.hid hid
 have HDT := Lib.hid hdet
 have HSH := Lib.hid hs
 rw [show (Calls Try.prog 73 #[.pointer (some ⟨M, 0, none⟩), digV id] w) = (Calls Try.prog 73 #[.pointer (some ⟨M, 0, none⟩), .agg ds] w) by rw [hds]; rfl]
 have q0 : (0 : Int) ≤ (s : Int) := by omega
 have q1 : (s : Int) < 16 := by omega
 clear hds hid h hdet hs
 go_enter Try.func73, Try.ntmps73
 go_wp2_with fail
 change Code.wp _ _ _ _ ((w.alloc (.cells ds 32)).alloc (.cells zeroVt.C.toArray 36))
 generalize hw1 : ((w.alloc (.cells ds 32)).alloc (.cells zeroVt.C.toArray 36)) = w1 at *
 clear hw1
 obtain ⟨g, hg⟩ : ∃ g, g = w.heap.size := ⟨_, rfl⟩
 have HG := Lib.hid hg
 rw [← hg] at B0 Z0 ⊢
 clear hg
 obtain ⟨T, hT⟩ : ∃ T : List Sx, T = [.is (.pointer (some ⟨M, 0, none⟩)), .is (digV id), .is (.int .i64 s), .is (.pointer (some ⟨M, 0, none⟩)), .is (.pointer (some ⟨M, 0, none⟩)), .is (.pointer (some ⟨M, s, none⟩)), .is (.pointer (some ⟨D s, 0, none⟩)), .is (digV id), .of (fun v9 w9 => ∃ x : Vt, v9 = .tuple #[x.V, .bool b] ∧ x.ct = c ∧ TVN w9 x) (fun v9 _ _ h k => by obtain ⟨x, h1, h2, h3⟩ := h; exact ⟨x, h1, h2, h3.ext k⟩), .of (fun v9 w9 => ∃ x : Vt, v9 = x.V ∧ x.ct = c ∧ TVN w9 x) (fun v9 _ _ h k => by obtain ⟨x, h1, h2, h3⟩ := h; exact ⟨x, h1, h2, h3.ext k⟩), .is (.bool b), .any, .is (.bool b)] := ⟨_, rfl⟩
 have HFX : T.map Sx.fixed = [true, true, true, true, true, true, true, true, false, false, true, true, true] := by rw [hT]; rfl
 have hFst : ∀ wa wb, (fun w9 => ∃ x : Vt, VB w9 (g + 1) x ∧ x.ct = c ∧ TVN w9 x ∧ Ex w w9) wa → Ex wa wb → (fun w9 => ∃ x : Vt, VB w9 (g + 1) x ∧ x.ct = c ∧ TVN w9 x ∧ Ex w w9) wb := fun _ _ h k9 => by obtain ⟨x, h1, h2, h3, h4⟩ := h; exact ⟨x, ⟨h1.1, h1.2.ext k9⟩, h2, h3.ext k9, Ex.trans h4 k9⟩
 refine wp_region_gen (JE w1 T ([none, none, none, none, none, none, none, none, some 11, some 11, none, none, none] : List (Option Nat)) ([(11, 1), (11, 6), (11, 7), (11, 8), (11, 9), (11, 10)] : List (Nat × Nat)) 11 11 (fun w9 => ∃ x : Vt, VB w9 (g + 1) x ∧ x.ct = c ∧ TVN w9 x ∧ Ex w w9)) (by kernel_rfl) (by kernel_rfl) (by kernel_rfl) (fitB_spec (by kernel_rfl)) (fun listed f h => JE.start listed f h) ?_ ?_
 ·intro i o ho
  have hi : i < 13 := (Array.getElem?_eq_some_iff.1 ho).1
  have hi' : i = 0 ∨ i = 1 ∨ i = 2 ∨ i = 3 ∨ i = 4 ∨ i = 5 ∨ i = 6 ∨ i = 7 ∨ i = 8 ∨ i = 9 ∨ i = 10 ∨ i = 11 ∨ i = 12 := by omega
  clear hi
  rcases hi' with rfl | rfl | rfl | rfl | rfl | rfl | rfl | rfl | rfl | rfl | rfl | rfl | rfl
  all_goals (simp only [List.getElem?_toArray, List.getElem?_cons_zero, List.getElem?_cons_succ, Option.some.injEq] at ho; subst ho; intro listed f a w3 hJ hsz hls hun hdep hout hlat)
  ·rw [if_pos (by rfl)]
   intro K hK
   have q0 := hout 0 (outB_spec (by kernel_rfl))
   have hord : ∀ x ∈ ([(11, 1), (11, 6), (11, 7), (11, 8), (11, 9), (11, 10)] : List (Nat × Nat)), x.1 = 0 → listed.getD x.2 false = true := (by intro x hx he; simp only [List.mem_cons, List.not_mem_nil, or_false] at hx; rcases hx with rfl | rfl | rfl | rfl | rfl | rfl; all_goals first | (exact absurd he (by decide)) | assumption)
   refine wp_mv _ rfl (hK _ _ ?_)
   rw [show a.eval (.tmp 0) = .pointer (some ⟨M, 0, none⟩) from q0]
   exact hJ.plain (by rw [hls]; decide) hFst (by decide) (Ex.refl _) (by rw [hT]; rfl) hord
  ·rw [if_pos (by rfl)]
   intro K hK
   have q3 := hout 3 (outB_spec (by kernel_rfl))
   have hord : ∀ x ∈ ([(11, 1), (11, 6), (11, 7), (11, 8), (11, 9), (11, 10)] : List (Nat × Nat)), x.1 = 1 → listed.getD x.2 false = true := (by intro x hx he; simp only [List.mem_cons, List.not_mem_nil, or_false] at hx; rcases hx with rfl | rfl | rfl | rfl | rfl | rfl; all_goals first | (exact absurd he (by decide)) | assumption)
   have hcut : listed.getD 11 false = false := by
    cases hc : listed.getD 11 false with
    | false => rfl
    | true =>
     have hc0 := hJ.ord (11, 1) (by simp) hc
     exact absurd hc0 (by rw [hun]; decide)
   have hpre := hJ.pre hcut
   exact ld_idb (.tmp 3) g id HID.out rfl q3 (B0.out.ext hpre) (hK _ _ (hJ.plain (by rw [hls]; decide) hFst (by decide) (Ex.refl _) (by rw [hT]; rfl) hord))
  ·rw [if_pos (by rfl)]
   intro K hK
   have dd7 := hdep ⟨1, .data⟩ (by simp) rfl
   have q7 := dd7.2 _ rfl _ rfl
   have h7 := hJ.vals 1 dd7.1 no_c
   rw [hT] at h7
   rw [show f 1 = digV id from h7] at q7
   clear h7
   clear dd7
   have hord : ∀ x ∈ ([(11, 1), (11, 6), (11, 7), (11, 8), (11, 9), (11, 10)] : List (Nat × Nat)), x.1 = 2 → listed.getD x.2 false = true := (by intro x hx he; simp only [List.mem_cons, List.not_mem_nil, or_false] at hx; rcases hx with rfl | rfl | rfl | rfl | rfl | rfl; all_goals first | (exact absurd he (by decide)) | assumption)
   rw [Array.getD_eq_getD_getElem?] at q7
   clear hsz hdep hout hlat
   go_simp
   refine (iof_any id HID.out s HSH.out w3).mono ?_
   rintro e w4 ⟨rfl, x4⟩
   exact hK _ _ (hJ.plain (by rw [hls]; decide) hFst (by decide) x4 (by rw [hT]; rfl) hord)
  ·rw [if_pos (by rfl)]
   intro K hK
   have dd6 := hdep ⟨0, .data⟩ (by simp) rfl
   have q6 := dd6.2 _ rfl _ rfl
   have h6 := hJ.vals 0 dd6.1 no_c
   rw [hT] at h6
   rw [show f 0 = .pointer (some ⟨M, 0, none⟩) from h6] at q6
   clear h6
   clear dd6
   have hord : ∀ x ∈ ([(11, 1), (11, 6), (11, 7), (11, 8), (11, 9), (11, 10)] : List (Nat × Nat)), x.1 = 3 → listed.getD x.2 false = true := (by intro x hx he; simp only [List.mem_cons, List.not_mem_nil, or_false] at hx; rcases hx with rfl | rfl | rfl | rfl | rfl | rfl; all_goals first | (exact absurd he (by decide)) | assumption)
   rw [Array.getD_eq_getD_getElem?] at q6
   clear hsz hdep hout hlat
   go_simp
   exact hK _ _ (hJ.plain (by rw [hls]; decide) hFst (by decide) (Ex.refl _) (by rw [hT]; first | rfl | exact int_eq (by omega) | exact int_eq (by rw [IntKind.wrap_i64]; omega)) hord)
  ·rw [if_pos (by rfl)]
   intro K hK
   have dd9 := hdep ⟨3, .data⟩ (by simp) rfl
   have q9 := dd9.2 _ rfl _ rfl
   have h9 := hJ.vals 3 dd9.1 no_c
   rw [hT] at h9
   rw [show f 3 = .pointer (some ⟨M, 0, none⟩) from h9] at q9
   clear h9
   clear dd9
   have hord : ∀ x ∈ ([(11, 1), (11, 6), (11, 7), (11, 8), (11, 9), (11, 10)] : List (Nat × Nat)), x.1 = 4 → listed.getD x.2 false = true := (by intro x hx he; simp only [List.mem_cons, List.not_mem_nil, or_false] at hx; rcases hx with rfl | rfl | rfl | rfl | rfl | rfl; all_goals first | (exact absurd he (by decide)) | assumption)
   rw [Array.getD_eq_getD_getElem?] at q9
   clear hsz hdep hout hlat
   go_simp
   exact hK _ _ (hJ.plain (by rw [hls]; decide) hFst (by decide) (Ex.refl _) (by rw [hT]; first | rfl | exact int_eq (by omega) | exact int_eq (by rw [IntKind.wrap_i64]; omega)) hord)
  ·rw [if_pos (by rfl)]
   intro K hK
   have dd10 := hdep ⟨4, .data⟩ (by simp) rfl
   have q10 := dd10.2 _ rfl _ rfl
   have h10 := hJ.vals 4 dd10.1 no_c
   rw [hT] at h10
   rw [show f 4 = .pointer (some ⟨M, 0, none⟩) from h10] at q10
   clear h10
   clear dd10
   have dd8 := hdep ⟨2, .data⟩ (by simp) rfl
   have q8 := dd8.2 _ rfl _ rfl
   have h8 := hJ.vals 2 dd8.1 no_c
   rw [hT] at h8
   rw [show f 2 = .int .i64 s from h8] at q8
   clear h8
   clear dd8
   have hord : ∀ x ∈ ([(11, 1), (11, 6), (11, 7), (11, 8), (11, 9), (11, 10)] : List (Nat × Nat)), x.1 = 5 → listed.getD x.2 false = true := (by intro x hx he; simp only [List.mem_cons, List.not_mem_nil, or_false] at hx; rcases hx with rfl | rfl | rfl | rfl | rfl | rfl; all_goals first | (exact absurd he (by decide)) | assumption)
   rw [Array.getD_eq_getD_getElem?] at q10
   rw [Array.getD_eq_getD_getElem?] at q8
   clear hsz hdep hout hlat
   go_simp
   exact hK _ _ (hJ.plain (by rw [hls]; decide) hFst (by decide) (Ex.refl _) (by rw [hT]; first | rfl | exact int_eq (by omega) | exact int_eq (by rw [IntKind.wrap_i64]; omega)) hord)
  ·rw [if_pos (by rfl)]
   intro K hK
   have dd11 := hdep ⟨5, .data⟩ (by simp) rfl
   have q11 := dd11.2 _ rfl _ rfl
   have h11 := hJ.vals 5 dd11.1 no_c
   rw [hT] at h11
   rw [show f 5 = .pointer (some ⟨M, s, none⟩) from h11] at q11
   clear h11
   clear dd11
   have hord : ∀ x ∈ ([(11, 1), (11, 6), (11, 7), (11, 8), (11, 9), (11, 10)] : List (Nat × Nat)), x.1 = 6 → listed.getD x.2 false = true := (by intro x hx he; simp only [List.mem_cons, List.not_mem_nil, or_false] at hx; rcases hx with rfl | rfl | rfl | rfl | rfl | rfl; all_goals first | (exact absurd he (by decide)) | assumption)
   have hcut : listed.getD 11 false = false := by
    cases hc : listed.getD 11 false with
    | false => rfl
    | true =>
     have hc0 := hJ.ord (11, 6) (by simp) hc
     exact absurd hc0 (by rw [hun]; decide)
   have hpre := hJ.pre hcut
   have c6 : w3.cell? ⟨M, s, none⟩ = some (.pointer (some ⟨D s, 0, none⟩)) := by rw [(HIM.out.blk.ext hpre).cell, List.getElem?_toArray]; exact ptrs_at 16 D s hs16 hs16
   rw [Array.getD_eq_getD_getElem?] at q11
   clear hsz hdep hout hlat
   go_simp
   exact hK _ _ (hJ.plain (by rw [hls]; decide) hFst (by decide) (Ex.refl _) (by rw [hT]; rfl) hord)
  ·rw [if_pos (by rfl)]
   intro K hK
   have q3 := hout 3 (outB_spec (by kernel_rfl))
   have hord : ∀ x ∈ ([(11, 1), (11, 6), (11, 7), (11, 8), (11, 9), (11, 10)] : List (Nat × Nat)), x.1 = 7 → listed.getD x.2 false = true := (by intro x hx he; simp only [List.mem_cons, List.not_mem_nil, or_false] at hx; rcases hx with rfl | rfl | rfl | rfl | rfl | rfl; all_goals first | (exact absurd he (by decide)) | assumption)
   have hcut : listed.getD 11 false = false := by
    cases hc : listed.getD 11 false with
    | false => rfl
    | true =>
     have hc0 := hJ.ord (11, 7) (by simp) hc
     exact absurd hc0 (by rw [hun]; decide)
   have hpre := hJ.pre hcut
   exact ld_idb (.tmp 3) g id HID.out rfl q3 (B0.out.ext hpre) (hK _ _ (hJ.plain (by rw [hls]; decide) hFst (by decide) (Ex.refl _) (by rw [hT]; rfl) hord))
  ·rw [if_pos (by rfl)]
   intro K hK
   have dd12 := hdep ⟨6, .data⟩ (by simp) rfl
   have q12 := dd12.2 _ rfl _ rfl
   have h12 := hJ.vals 6 dd12.1 no_c
   rw [hT] at h12
   rw [show f 6 = .pointer (some ⟨D s, 0, none⟩) from h12] at q12
   clear h12
   clear dd12
   have dd13 := hdep ⟨7, .data⟩ (by simp) rfl
   have q13 := dd13.2 _ rfl _ rfl
   have h13 := hJ.vals 7 dd13.1 no_c
   rw [hT] at h13
   rw [show f 7 = digV id from h13] at q13
   clear h13
   clear dd13
   have hord : ∀ x ∈ ([(11, 1), (11, 6), (11, 7), (11, 8), (11, 9), (11, 10)] : List (Nat × Nat)), x.1 = 8 → listed.getD x.2 false = true := (by intro x hx he; simp only [List.mem_cons, List.not_mem_nil, or_false] at hx; rcases hx with rfl | rfl | rfl | rfl | rfl | rfl; all_goals first | (exact absurd he (by decide)) | assumption)
   have hcut : listed.getD 11 false = false := by
    cases hc : listed.getD 11 false with
    | false => rfl
    | true =>
     have hc0 := hJ.ord (11, 8) (by simp) hc
     exact absurd hc0 (by rw [hun]; decide)
   have hpre := hJ.pre hcut
   rw [Array.getD_eq_getD_getElem?] at q12
   rw [Array.getD_eq_getD_getElem?] at q13
   clear hsz hdep hout hlat
   go_simp
   refine (tget_det id HID.out HDT.out w3 ((HIM.out.ts.tb s hs16).ext hpre)).mono ?_
   rintro e w4 ⟨x, rfl, h1, h2, x4⟩
   exact hK _ _ (hJ.plain (by rw [hls]; decide) hFst (by decide) x4 (by rw [hT]; exact ⟨x, rfl, h1, h2⟩) hord)
  ·rw [if_pos (by rfl)]
   intro K hK
   have dd14 := hdep ⟨8, .data⟩ (by simp) rfl
   have q14 := dd14.2 _ rfl _ rfl
   have hcut : listed.getD 11 false = false := by
    cases hc : listed.getD 11 false with
    | false => rfl
    | true =>
     have hc0 := hJ.ord (11, 9) (by simp) hc
     exact absurd hc0 (by rw [hun]; decide)
   have h14 := hJ.vals 8 dd14.1 (fun c hc => by have hc : some 11 = some c := hc; cases hc; exact hcut)
   rw [hT] at h14
   have h14 : (fun v9 w9 => ∃ x : Vt, v9 = .tuple #[x.V, .bool b] ∧ x.ct = c ∧ TVN w9 x) (f 8) w3 := h14
   obtain ⟨x14, e14, c14, n14⟩ := h14
   rw [e14] at q14
   clear e14
   clear dd14
   have hord : ∀ x ∈ ([(11, 1), (11, 6), (11, 7), (11, 8), (11, 9), (11, 10)] : List (Nat × Nat)), x.1 = 9 → listed.getD x.2 false = true := (by intro x hx he; simp only [List.mem_cons, List.not_mem_nil, or_false] at hx; rcases hx with rfl | rfl | rfl | rfl | rfl | rfl; all_goals first | (exact absurd he (by decide)) | assumption)
   rw [Array.getD_eq_getD_getElem?] at q14
   clear hsz hdep hout hlat
   go_simp
   exact hK _ _ (hJ.plain (by rw [hls]; decide) hFst (by decide) (Ex.refl _) (by rw [hT]; exact ⟨x14, rfl, c14, n14⟩) hord)
  ·rw [if_pos (by rfl)]
   intro K hK
   have dd14 := hdep ⟨8, .data⟩ (by simp) rfl
   have q14 := dd14.2 _ rfl _ rfl
   have hcut : listed.getD 11 false = false := by
    cases hc : listed.getD 11 false with
    | false => rfl
    | true =>
     have hc0 := hJ.ord (11, 10) (by simp) hc
     exact absurd hc0 (by rw [hun]; decide)
   have h14 := hJ.vals 8 dd14.1 (fun c hc => by have hc : some 11 = some c := hc; cases hc; exact hcut)
   rw [hT] at h14
   have h14 : (fun v9 w9 => ∃ x : Vt, v9 = .tuple #[x.V, .bool b] ∧ x.ct = c ∧ TVN w9 x) (f 8) w3 := h14
   obtain ⟨x14, e14, c14, n14⟩ := h14
   rw [e14] at q14
   clear e14
   clear dd14
   have hord : ∀ x ∈ ([(11, 1), (11, 6), (11, 7), (11, 8), (11, 9), (11, 10)] : List (Nat × Nat)), x.1 = 10 → listed.getD x.2 false = true := (by intro x hx he; simp only [List.mem_cons, List.not_mem_nil, or_false] at hx; rcases hx with rfl | rfl | rfl | rfl | rfl | rfl; all_goals first | (exact absurd he (by decide)) | assumption)
   rw [Array.getD_eq_getD_getElem?] at q14
   clear hsz hdep hout hlat
   go_simp
   exact hK _ _ (hJ.plain (by rw [hls]; decide) hFst (by decide) (Ex.refl _) (by rw [hT]; first | rfl | exact int_eq (by omega) | exact int_eq (by rw [IntKind.wrap_i64]; omega)) hord)
  ·rw [if_pos (by rfl)]
   intro K hK
   have q4 := hout 4 (outB_spec (by kernel_rfl))
   have dd15 := hdep ⟨9, .data⟩ (by simp) rfl
   have q15 := dd15.2 _ rfl _ rfl
   have h15 := hJ.vals 9 dd15.1 (fun c hc => by have hc : some 11 = some c := hc; cases hc; exact hun)
   rw [hT] at h15
   have h15 : (fun v9 w9 => ∃ x : Vt, v9 = x.V ∧ x.ct = c ∧ TVN w9 x) (f 9) w3 := h15
   obtain ⟨x15, e15, c15, n15⟩ := h15
   rw [e15] at q15
   clear e15
   clear dd15
   have hl1 := (hdep ⟨1, .phase⟩ (by simp) rfl).1
   have hl6 := (hdep ⟨6, .phase⟩ (by simp) rfl).1
   have hl7 := (hdep ⟨7, .phase⟩ (by simp) rfl).1
   have hl8 := (hdep ⟨8, .chain⟩ (by simp) rfl).1
   have hl9 := (hdep ⟨9, .data⟩ (by simp) rfl).1
   have hl10 := (hdep ⟨10, .phase⟩ (by simp) rfl).1
   have hord : ∀ x ∈ ([(11, 1), (11, 6), (11, 7), (11, 8), (11, 9), (11, 10)] : List (Nat × Nat)), x.1 = 11 → listed.getD x.2 false = true := (by intro x hx he; simp only [List.mem_cons, List.not_mem_nil, or_false] at hx; rcases hx with rfl | rfl | rfl | rfl | rfl | rfl; all_goals first | (exact absurd he (by decide)) | assumption)
   have hcut := hun
   have hpre := hJ.pre hcut
   have hc1 : ∀ j, j ≠ 11 → ([true, true, true, true, true, true, true, true, false, false, true, true, true] : List Bool).getD j true = false → listed.getD j false = true → ∃ c, (([none, none, none, none, none, none, none, none, some 11, some 11, none, none, none] : List (Option Nat))).getD j none = some c ∧ (c = 11 ∨ listed.getD c false = true) := by
    intro j hj hfj hl
    have hm : j = 8 ∨ j = 9 := by
     rcases Nat.lt_or_ge j 13 with h | h
     ·have hk : j = 0 ∨ j = 1 ∨ j = 2 ∨ j = 3 ∨ j = 4 ∨ j = 5 ∨ j = 6 ∨ j = 7 ∨ j = 8 ∨ j = 9 ∨ j = 10 ∨ j = 11 ∨ j = 12 := by omega
      rcases hk with rfl | rfl | rfl | rfl | rfl | rfl | rfl | rfl | rfl | rfl | rfl | rfl | rfl <;> first | (exact absurd hfj (by decide)) | simp
     ·rw [List.getD_eq_getElem?_getD, List.getElem?_eq_none (by simpa using h)] at hfj; cases hfj
    rcases hm with rfl | rfl
    ·exact ⟨11, rfl, Or.inl rfl⟩
    ·exact ⟨11, rfl, Or.inl rfl⟩
   have z9 : VB w3 (g + 1) zeroVt := ⟨zeroVt_ok, Z0.out.2.ext hpre⟩
   refine st_v (.tmp 4) (.tmp 15) (g + 1) x15 rfl q4 q15 n15.ok z9.2 (by rfl) (fun w5 hd ho => ?_)
   have hfin : ∃ x : Vt, VB w5 (g + 1) x ∧ x.ct = c ∧ TVN w5 x ∧ Ex w w5 := ⟨x15, hd, c15, ⟨n15.ok, n15.sec.onlyT ho z9.2 (by decide), n15.len⟩, ho.below w.heap.size (by have := HG.out; omega) w (Ex.trans BW.out hpre)⟩
   exact hK _ _ (hJ.mod (by rw [hls]; decide) HFX (by rw [hT]; exact trivial) hc1 (Or.inl rfl) (fun _ => hfin) hord)
  ·rw [if_pos (by rfl)]
   intro K hK
   have dd16 := hdep ⟨10, .data⟩ (by simp) rfl
   have q16 := dd16.2 _ rfl _ rfl
   have h16 := hJ.vals 10 dd16.1 no_c
   rw [hT] at h16
   rw [show f 10 = .bool b from h16] at q16
   clear h16
   clear dd16
   have hord : ∀ x ∈ ([(11, 1), (11, 6), (11, 7), (11, 8), (11, 9), (11, 10)] : List (Nat × Nat)), x.1 = 12 → listed.getD x.2 false = true := (by intro x hx he; simp only [List.mem_cons, List.not_mem_nil, or_false] at hx; rcases hx with rfl | rfl | rfl | rfl | rfl | rfl; all_goals first | (exact absurd he (by decide)) | assumption)
   rw [Array.getD_eq_getD_getElem?] at q16
   clear hsz hdep hout hlat
   go_simp
   exact hK _ _ (hJ.plain (by rw [hls]; decide) hFst (by decide) (Ex.refl _) (by rw [hT]; first | rfl | exact int_eq (by omega) | exact int_eq (by rw [IntKind.wrap_i64]; omega)) hord)
 ·intro listed f w3 hall hJ
  have f12 : f 12 = .bool b := by
   have h := hJ.vals 12 (hall 12 (by simp)) no_c
   rw [hT] at h; exact h
  have xf : (fun w9 => ∃ x : Vt, VB w9 (g + 1) x ∧ x.ct = c ∧ TVN w9 x ∧ Ex w w9) w3 := hJ.fin (hall 11 (by simp))
  simp only [putAll, Act.put, List.setIfInBounds_toArray, List.set_cons_zero, List.set_cons_succ, Nat.zero_add, Nat.reduceAdd]
  rw [f12]
  clear f12
  clear hJ hall hT HFX hFst
  generalize f 0 = y0
  generalize f 1 = y1
  generalize f 2 = y2
  generalize f 3 = y3
  generalize f 4 = y4
  generalize f 5 = y5
  generalize f 6 = y6
  generalize f 7 = y7
  generalize f 8 = y8
  generalize f 9 = y9
  generalize f 10 = y10
  obtain ⟨x, h1, h2, h3, h4⟩ := xf
  have HX := Lib.hid (And.intro h1 (And.intro h2 (And.intro h3 h4)))
  clear h1 h2 h3 h4
  go_wp2_with fail
  exact bodyPost_ret (res_v2 rfl _ _ (g + 1) rfl x HX.out.1) rfl ⟨x, rfl, HX.out.2.1, HX.out.2.2.1, HX.out.2.2.2⟩
end Go.Proofs.Ytmjfnpmnhehnkaa
