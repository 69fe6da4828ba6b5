/- Ua, Ub, Uc -/
import Derived.Test.YtmjfnpmnhehnkaaPal
namespace Go.Proofs.Ytmjfnpmnhehnkaa
open Go.RowKit
/-- blocks of rows are not one -/
def Djn (v v' : Value) : Prop := ∀ g, v.ownBlock = some g → v'.ownBlock ≠ some g
theorem Djn.symm {v v' : Value} (h : Djn v v') : Djn v' v := fun g h1 h2 => h g h2 h1
theorem TB.D_ne {w : World} {D gb : Nat} {rv : Value} {vs : List Vt} {cs : Array Value} (h : TB w D rv vs) (hb : Bk w gb 36 cs) : D ≠ gb := fun e => by
 subst e
 have h1 := h.blk
 unfold Bk at h1 hb
 rw [h1] at hb; cases hb
theorem TB.other {w w' : World} {D D' : Nat} {rv rv' : Value} {vs vs' : List Vt} (h : TB w D rv vs) (h' : TB w D' rv' vs') (k : Tc D' rv'.ownBlock w w') (hd : D ≠ D') (hr : Djn rv rv') : TB w' D rv vs := by
 have hrow := h'.row.blk
 have keep : ∀ x, TVN w x → TVN w' x := fun x hx => by
  rcases hrow with e | ⟨gb, e, _, _, hb⟩
  ·exact hx.tc (gb := 0) k h'.blk (Or.inl e)
  exact hx.tc k h'.blk (Or.inr ⟨e, hb⟩)
 refine ⟨k.bk h.blk hd (fun e => ?_), ⟨⟨h.row.row.1, h.row.row.2.imp id fun ⟨g, cap, cur, hv, hB, hg, hrest⟩ => ⟨g, cap, cur, hv, hB, ?_, hrest⟩⟩, fun i x hx => keep x (h.row.ins i x hx)⟩, h.len, h.srt⟩
 ·rcases hrow with e2 | ⟨gb, e2, _, _, cs, hb⟩
  ·rw [e2] at e; cases e
  rw [e2] at e; cases e
  exact h.D_ne hb rfl
 exact (show Bk w' g 36 cur from k.bk hg (fun e => by subst e; exact h'.D_ne hg rfl) (fun e => hr g (by rw [hv]; rfl) e.symm))
/-- n tables, each with blocks of its own -/
structure TS (w : World) (B n : Nat) (D : Nat → Nat) (r : Nat → Value) (v : Nat → List Vt) : Prop where
 tb : ∀ i, i < n → TB w (D i) (r i) (v i)
 lo : ∀ i, i < n → B ≤ D i
 dd : ∀ i j, i < n → j < n → i ≠ j → D i ≠ D j
 rr : ∀ i j, i < n → j < n → i ≠ j → Djn (r i) (r j)
theorem TS.ext {w w' : World} {B n : Nat} {D : Nat → Nat} {r : Nat → Value} {v : Nat → List Vt} (h : TS w B n D r v) (k : Ex w w') : TS w' B n D r v := ⟨fun i hi => (h.tb i hi).ext k, h.lo, h.dd, h.rr⟩
def updF {α : Type} (f : Nat → α) (k : Nat) (x : α) : Nat → α := fun i => if i = k then x else f i
theorem updF_same {α : Type} (f : Nat → α) (k : Nat) (x : α) : updF f k x k = x := if_pos rfl
theorem updF_ne {α : Type} (f : Nat → α) {k i : Nat} (x : α) (h : i ≠ k) : updF f k x i = f i := if_neg h
/-- one table is turned, the others stay -/
theorem TS.turn {w w' : World} {B n k : Nat} {D : Nat → Nat} {r : Nat → Value} {v : Nat → List Vt} {rv' : Value} {vs' : List Vt} (h : TS w B n D r v) (hk : k < n) (ht : TB w' (D k) rv' vs') (htc : Tc (D k) (r k).ownBlock w w') (hl : Lies w (r k) rv') :
  TS w' B n D (updF r k rv') (updF v k vs') := by
 refine ⟨fun i hi => ?_, h.lo, h.dd, fun i j hi hj hij => ?_⟩
 ·by_cases e : i = k
  ·subst e; rw [updF_same, updF_same]; exact ht
  rw [updF_ne _ _ e, updF_ne _ _ e]
  exact (h.tb i hi).other (h.tb k hk) htc (h.dd i k hi hk e) (h.rr i k hi hk e)
 have fresh : ∀ i, i < n → i ≠ k → Djn (r i) rv' := fun i hi e g hg he => by
  rcases hl with h1 | h1
  ·exact h.rr i k hi hk e g hg (h1 ▸ he)
  have h2 := h1 g he
  have h3 := (h.tb i hi).row.row.lt g hg
  omega
 by_cases e : i = k
 ·subst e
  rw [updF_same, updF_ne _ _ (fun e => hij e.symm)]
  exact (fresh j hj (fun e => hij e.symm)).symm
 rw [updF_ne _ _ e]
 by_cases e2 : j = k
 ·subst e2; rw [updF_same]; exact fresh i hi e
 rw [updF_ne _ _ e2]; exact h.rr i j hi hj hij
theorem Md.tc {w w' : World} {D : Nat} {r : Option Nat} (h : Md D w w') : Tc D r w w' := by
 have hb := h.below 0 (Nat.zero_le _) w (Below.refl 0 w)
 exact ⟨hb.os, hb.tape, hb.output, h.size, fun k hk h1 _ => h.other k h1 hk⟩
/-- the table's row is made anew -/
theorem TS.fill {w w' : World} {B n k : Nat} {D : Nat → Nat} {r : Nat → Value} {v : Nat → List Vt} {rv' : Value} {vs' : List Vt} (h : TS w B n D r v) (hk : k < n) (ht : TB w' (D k) rv' vs') (hm : Md (D k) w w') (hf : ∀ g, rv'.ownBlock = some g → w.heap.size ≤ g) :
  TS w' B n D (updF r k rv') (updF v k vs') := h.turn hk ht hm.tc (Or.inr hf)
end Go.Proofs.Ytmjfnpmnhehnkaa
namespace Go.Proofs.Ytmjfnpmnhehnkaa
open Go.RowKit
theorem TB.kts {S : List Nat} {B : Nat} {w w' : World} {D : Nat} {rv : Value} {vs : List Vt} (h : TB w D rv vs) (k : Kt S B w w') (h1 : 169 ∉ S) (h2 : 36 ∉ S) (h3 : 5 ∉ S) : TB w' D rv vs :=
 ⟨k.bk h.blk h1, ⟨k.row h.row.row h2, fun i x hx => (h.row.ins i x hx).kt k h3⟩, h.len, h.srt⟩
theorem TS.kts {S : List Nat} {B B' n : Nat} {w w' : World} {D : Nat → Nat} {r : Nat → Value} {v : Nat → List Vt} (h : TS w B n D r v) (k : Kt S B' w w') (h1 : 169 ∉ S) (h2 : 36 ∉ S) (h3 : 5 ∉ S) : TS w' B n D r v :=
 ⟨fun i hi => (h.tb i hi).kts k h1 h2 h3, h.lo, h.dd, h.rr⟩
/-- a table more -/
theorem TS.push {w w' : World} {B n D' : Nat} {D : Nat → Nat} {r : Nat → Value} {v : Nat → List Vt} (h : TS w B n D r v) (h' : TS w' B n D r v) (hD : w.heap.size ≤ D') (hB : B ≤ D') (ht : TB w' D' (.slice none 0 0) []) : TS w' B (n + 1) (updF D n D') (updF r n (.slice none 0 0)) (updF v n []) := by
 have hlt : ∀ i, i < n → D i < w.heap.size := fun i hi => (h.tb i hi).blk.lt
 refine ⟨fun i hi => ?_, fun i hi => ?_, fun i j hi hj hij => ?_, fun i j hi hj hij => ?_⟩
 ·by_cases e : i = n
  ·subst e; rw [updF_same, updF_same, updF_same]; exact ht
  rw [updF_ne _ _ e, updF_ne _ _ e, updF_ne _ _ e]; exact h'.tb i (by omega)
 ·by_cases e : i = n
  ·subst e; rw [updF_same]; exact hB
  rw [updF_ne _ _ e]; exact h.lo i (by omega)
 ·by_cases e : i = n
  ·subst e
   rw [updF_same, updF_ne _ _ (fun e => hij e.symm)]
   have := hlt j (by omega); omega
  rw [updF_ne _ _ e]
  by_cases e2 : j = n
  ·subst e2; rw [updF_same]; have := hlt i (by omega); omega
  rw [updF_ne _ _ e2]; exact h.dd i j (by omega) (by omega) hij
 by_cases e : i = n
 ·subst e; rw [updF_same]; exact fun g hg => by cases hg
 rw [updF_ne _ _ e]
 by_cases e2 : j = n
 ·subst e2; rw [updF_same]; exact fun g hg he => by cases he
 rw [updF_ne _ _ e2]; exact h.rr i j (by omega) (by omega) hij
/-- pointers to the first k of sixteen tables -/
def ptrs (k : Nat) (D : Nat → Nat) : List Value := (List.range 16).map fun j => if j < k then .pointer (some ⟨D j, 0, none⟩) else .pointer none
theorem ptrs_len (k : Nat) (D : Nat → Nat) : (ptrs k D).length = 16 := by unfold ptrs; rw [List.length_map, List.length_range]
theorem ptrs_set (k : Nat) (D : Nat → Nat) (D' : Nat) : (ptrs k D).set k (.pointer (some ⟨D', 0, none⟩)) = ptrs (k + 1) (updF D k D') := by
 apply List.ext_getElem?
 intro i
 by_cases e : k = i
 ·subst e
  by_cases h : k < 16
  ·rw [List.getElem?_set_self (by rw [ptrs_len]; exact h)]
   unfold ptrs
   rw [List.getElem?_map, List.getElem?_range h]
   simp [updF_same]
  rw [List.getElem?_eq_none (by rw [List.length_set, ptrs_len]; omega), List.getElem?_eq_none (by rw [ptrs_len]; omega)]
 rw [List.getElem?_set_ne e]
 unfold ptrs
 rw [List.getElem?_map, List.getElem?_map]
 by_cases h : i < 16
 ·rw [List.getElem?_range h]
  simp only [Option.map_some, Option.some.injEq]
  rw [updF_ne _ _ (fun e2 => e e2.symm)]
  by_cases h2 : i < k
  ·rw [if_pos h2, if_pos (by omega)]
  rw [if_neg h2, if_neg (by omega)]
 rw [List.getElem?_eq_none (by rw [List.length_range]; omega)]; rfl
theorem ptrs_at (k : Nat) (D : Nat → Nat) (i : Nat) (hi : i < k) (h16 : i < 16) : (ptrs k D)[i]? = some (.pointer (some ⟨D i, 0, none⟩)) := by
 unfold ptrs
 rw [List.getElem?_map, List.getElem?_range h16]
 simp [hi]
/-- an ideal map: its block, its tables -/
structure IM (w : World) (B M : Nat) (D : Nat → Nat) (r : Nat → Value) (v : Nat → List Vt) : Prop where
 blk : Bk w M 140 (ptrs 16 D).toArray
 ts : TS w B 16 D r v
theorem IM.ext {w w' : World} {B M : Nat} {D : Nat → Nat} {r : Nat → Value} {v : Nat → List Vt} (h : IM w B M D r v) (k : Ex w w') : IM w' B M D r v := ⟨h.blk.ext k, h.ts.ext k⟩
def INewPost (w : World) (e : Ending) (w' : World) : Prop := ∃ (M : Nat) (D : Nat → Nat) (r : Nat → Value) (v : Nat → List Vt), e = .returned (.pointer (some ⟨M, 0, none⟩)) ∧ IM w' w.heap.size M D r v ∧ w.heap.size ≤ M ∧ (∀ i, i < 16 → v i = []) ∧ Ex w w'
set_option maxHeartbeats 4000000 in
set_option maxRecDepth 100000 in
theorem inew_any (w : World) : Calls Try.prog 38 #[] w (INewPost w) := by
 go_enter Try.func38, Try.ntmps38
 go_wp2_with fail
 change Code.wp _ _ _ _ (w.alloc (.cells (ptrs 0 (fun _ => 0)).toArray 140))
 have B0 : Hid (Bk (w.alloc (.cells (ptrs 0 (fun _ => 0)).toArray 140)) w.heap.size 140 (ptrs 0 (fun _ => 0)).toArray) := Lib.hid (Bk.new rfl _ _)
 have X0 : Hid (Ex w (w.alloc (.cells (ptrs 0 (fun _ => 0)).toArray 140))) := Lib.hid (Ex.alloc w _)
 obtain ⟨M, hM⟩ : ∃ M, M = w.heap.size := ⟨_, rfl⟩
 generalize hw1 : (w.alloc (.cells (ptrs 0 (fun _ => 0)).toArray 140)) = w1 at *
 rw [← hM] at B0 ⊢
 have HM := Lib.hid hM
 clear hw1 hM
 go_loopw [5] (fun i wr => ∃ (k : Nat) (D : Nat → Nat) (r : Nat → Value) (v : Nat → List Vt), k ≤ 16 ∧ i = .int .i64 k ∧ Hid (Bk wr M 140 (ptrs k D).toArray ∧ TS wr w.heap.size k D r v ∧ Ex w wr ∧ ∀ i, i < k → v i = [])) (fun i _ => 16 - (intOf i).toNat)
 case atStart => exact ⟨0, _, fun _ => .slice none 0 0, fun _ => [], by omega, rfl, Lib.hid ⟨B0.out, ⟨fun i hi => absurd hi (Nat.not_lt_zero i), fun i hi => absurd hi (Nat.not_lt_zero i), fun i j hi => absurd hi (Nat.not_lt_zero i), fun i j hi => absurd hi (Nat.not_lt_zero i)⟩, X0.out, fun i hi => absurd hi (Nat.not_lt_zero i)⟩⟩
 case round =>
  clear B0 X0
  obtain ⟨k, D, r, v, hk, rfl, P⟩ := hrel
  by_cases hlt : k < 16
  ·have q0 : (0 : Int) ≤ (k : Int) := by omega
   have q1 : (k : Int) < 16 := by omega
   go_wp2_with fail
   obtain ⟨T, hT⟩ : ∃ T : List Sx, T = [.is (.pointer (some ⟨M, 0, none⟩)), .is (.int .i64 k), .of (fun v9 w9 => ∃ D9, v9 = .pointer (some ⟨D9, 0, none⟩) ∧ wr.heap.size ≤ D9 ∧ TB w9 D9 (.slice none 0 0) []) (fun v9 _ _ h k => by obtain ⟨D9, h1, h2, h3⟩ := h; exact ⟨D9, h1, h2, h3.ext k⟩), .is (.pointer (some ⟨M, 0, none⟩)), .is (.pointer (some ⟨M, 0, none⟩)), .is (.pointer (some ⟨M, k, none⟩)), .any] := ⟨_, rfl⟩
   have HFX : T.map Sx.fixed = [true, true, false, true, true, true, true] := by rw [hT]; rfl
   have hFst : ∀ wa wb, (fun w9 => ∃ D9, wr.heap.size ≤ D9 ∧ TB w9 D9 (.slice none 0 0) [] ∧ Bk w9 M 140 (ptrs (k + 1) (updF D k D9)).toArray ∧ TS w9 w.heap.size k D r v ∧ Ex w w9) wa → Ex wa wb → (fun w9 => ∃ D9, wr.heap.size ≤ D9 ∧ TB w9 D9 (.slice none 0 0) [] ∧ Bk w9 M 140 (ptrs (k + 1) (updF D k D9)).toArray ∧ TS w9 w.heap.size k D r v ∧ Ex w w9) wb := fun _ _ h k9 => by obtain ⟨D9, h1, h2, h3, h4, h5⟩ := h; exact ⟨D9, h1, h2.ext k9, h3.ext k9, h4.ext k9, Ex.trans h5 k9⟩
   refine wp_region_gen (JE wr T ([none, none, some 6, none, none, none, none] : List (Option Nat)) ([(6, 2)] : List (Nat × Nat)) 6 6 (fun w9 => ∃ D9, wr.heap.size ≤ D9 ∧ TB w9 D9 (.slice none 0 0) [] ∧ Bk w9 M 140 (ptrs (k + 1) (updF D k D9)).toArray ∧ TS w9 w.heap.size k D r v ∧ Ex w w9)) (by kernel_rfl) (by kernel_rfl) (by kernel_rfl) (fitB_spec (by kernel_rfl)) (fun listed f h => JE.start listed f h) ?_ ?_
   ·intro i o ho
    have hi : i < 7 := (Array.getElem?_eq_some_iff.1 ho).1
    have hi' : i = 0 ∨ i = 1 ∨ i = 2 ∨ i = 3 ∨ i = 4 ∨ i = 5 ∨ i = 6 := by omega
    clear hi
    rcases hi' with rfl | rfl | rfl | rfl | rfl | rfl | rfl
    all_goals (simp only [List.getElem?_toArray, List.getElem?_cons_zero, List.getElem?_cons_succ, Option.some.injEq] at ho; subst ho; intro listed f a w3 hJ hsz hls hun hdep hout hlat; first | (rw [if_pos (by rfl)]; intro K hK) | skip)
    ·have q1 := hout 1 (outB_spec (by kernel_rfl))
     refine wp_mv _ rfl (hK _ _ ?_)
     rw [show a.eval (.tmp 1) = .pointer (some ⟨M, 0, none⟩) from q1]
     exact hJ.plain (by rw [hls]; decide) hFst (by decide) (Ex.refl _) (by rw [hT]; rfl) (no_head (by decide))
    ·have q2 := hout 2 (outB_spec (by kernel_rfl))
     refine wp_mv _ rfl (hK _ _ ?_)
     rw [show a.eval (.tmp 2) = .int .i64 k from q2]
     exact hJ.plain (by rw [hls]; decide) hFst (by decide) (Ex.refl _) (by rw [hT]; rfl) (no_head (by decide))
    ·have hcut : listed.getD 6 false = false := by
      cases hc : listed.getD 6 false with
      | false => rfl
      | true =>
       have hc0 := hJ.ord (6, 2) (by simp) hc
       exact absurd hc0 (by rw [hun]; decide)
     have hpre := hJ.pre hcut
     clear hsz hdep hout hlat
     go_simp
     refine (tnew_any w3).mono ?_
     rintro e w4 ⟨D9, rfl, h1, h2, x4⟩
     exact hK _ _ (hJ.plain (by rw [hls]; decide) hFst (by decide) x4 (by rw [hT]; exact ⟨D9, rfl, Nat.le_trans hpre.sz' h1, h2⟩) (no_head (by decide)))
    ·have dd8 := hdep ⟨0, .data⟩ (by simp) rfl
     have q8 := dd8.2 _ rfl _ rfl
     have h8 := hJ.vals 0 dd8.1 no_c
     rw [hT] at h8
     rw [show f 0 = .pointer (some ⟨M, 0, none⟩) from h8] at q8
     clear h8
     clear dd8
     rw [Array.getD_eq_getD_getElem?] at q8
     clear hsz hdep hout hlat
     go_simp
     exact hK _ _ (hJ.plain (by rw [hls]; decide) hFst (by decide) (Ex.refl _) (by rw [hT]; first | rfl | exact int_eq (by omega) | exact int_eq (by rw [IntKind.wrap_i64]; omega)) (no_head (by decide)))
    ·have dd11 := hdep ⟨3, .data⟩ (by simp) rfl
     have q11 := dd11.2 _ rfl _ rfl
     have h11 := hJ.vals 3 dd11.1 no_c
     rw [hT] at h11
     rw [show f 3 = .pointer (some ⟨M, 0, none⟩) from h11] at q11
     clear h11
     clear dd11
     rw [Array.getD_eq_getD_getElem?] at q11
     clear hsz hdep hout hlat
     go_simp
     exact hK _ _ (hJ.plain (by rw [hls]; decide) hFst (by decide) (Ex.refl _) (by rw [hT]; first | rfl | exact int_eq (by omega) | exact int_eq (by rw [IntKind.wrap_i64]; omega)) (no_head (by decide)))
    ·have dd12 := hdep ⟨4, .data⟩ (by simp) rfl
     have q12 := dd12.2 _ rfl _ rfl
     have h12 := hJ.vals 4 dd12.1 no_c
     rw [hT] at h12
     rw [show f 4 = .pointer (some ⟨M, 0, none⟩) from h12] at q12
     clear h12
     clear dd12
     have dd9 := hdep ⟨1, .data⟩ (by simp) rfl
     have q9 := dd9.2 _ rfl _ rfl
     have h9 := hJ.vals 1 dd9.1 no_c
     rw [hT] at h9
     rw [show f 1 = .int .i64 k from h9] at q9
     clear h9
     clear dd9
     rw [Array.getD_eq_getD_getElem?] at q12 q9
     clear hsz hdep hout hlat
     go_simp
     exact hK _ _ (hJ.plain (by rw [hls]; decide) hFst (by decide) (Ex.refl _) (by rw [hT]; first | rfl | exact int_eq (by omega) | exact int_eq (by rw [IntKind.wrap_i64]; omega)) (no_head (by decide)))
    have dd13 := hdep ⟨5, .data⟩ (by simp) rfl
    have q13 := dd13.2 _ rfl _ rfl
    have h13 := hJ.vals 5 dd13.1 no_c
    rw [hT] at h13
    rw [show f 5 = .pointer (some ⟨M, k, none⟩) from h13] at q13
    clear h13
    clear dd13
    have dd10 := hdep ⟨2, .data⟩ (by simp) rfl
    have q10 := dd10.2 _ rfl _ rfl
    have h10 := hJ.vals 2 dd10.1 (fun c hc => by have hc : some 6 = some c := hc; cases hc; exact hun)
    rw [hT] at h10
    have h10 : (fun v9 w9 => ∃ D9, v9 = .pointer (some ⟨D9, 0, none⟩) ∧ wr.heap.size ≤ D9 ∧ TB w9 D9 (.slice none 0 0) []) (f 2) w3 := h10
    obtain ⟨D10, e10, l10, b10⟩ := h10
    rw [e10] at q10
    clear dd10
    have hl2 := (hdep ⟨2, .data⟩ (by simp) rfl).1
    have hord : ∀ x ∈ ([(6, 2)] : List (Nat × Nat)), x.1 = 6 → listed.getD x.2 false = true := (by intro x hx he; simp only [List.mem_cons, List.not_mem_nil, or_false] at hx; rcases hx with rfl; all_goals first | (exact absurd he (by decide)) | assumption)
    have hcut := hun
    have hpre := hJ.pre hcut
    have hc1 : ∀ j, j ≠ 6 → ([true, true, false, true, true, true, true] : List Bool).getD j true = false → listed.getD j false = true → ∃ c, (([none, none, some 6, none, none, none, none] : List (Option Nat))).getD j none = some c ∧ (c = 6 ∨ listed.getD c false = true) := by
     intro j hj hfj hl
     have hm : j = 2 := by
      rcases Nat.lt_or_ge j 7 with h | h
      ·have hk : j = 0 ∨ j = 1 ∨ j = 2 ∨ j = 3 ∨ j = 4 ∨ j = 5 ∨ j = 6 := by omega
       rcases hk with rfl | rfl | rfl | rfl | rfl | rfl | rfl <;> first | (exact absurd hfj (by decide)) | simp
      rw [List.getD_eq_getElem?_getD, List.getElem?_eq_none (by simpa using h)] at hfj; cases hfj
     rcases hm with rfl
     ·exact ⟨6, rfl, Or.inl rfl⟩
    have hb := P.out.1.ext hpre
    refine wp_st1 (C := ptrs k D) _ _ M k (.pointer (some ⟨D10, 0, none⟩)) rfl q13 q10 hb (by rw [ptrs_len]; exact hlt) (by kernel_rfl) rfl (fun w5 hd ho => ?_)
    have kt : Kt [140] 0 w3 w5 := Kt.md ho.md (Nat.zero_le _) hb (List.mem_singleton.2 rfl)
    have hfin : ∃ D9, wr.heap.size ≤ D9 ∧ TB w5 D9 (.slice none 0 0) [] ∧ Bk w5 M 140 (ptrs (k + 1) (updF D k D9)).toArray ∧ TS w5 w.heap.size k D r v ∧ Ex w w5 := ⟨D10, l10, b10.kts kt (by decide) (by decide) (by decide), by rw [← ptrs_set]; exact hd, (P.out.2.1.ext hpre).kts kt (by decide) (by decide) (by decide), ho.below w.heap.size (Nat.le_of_eq HM.out.symm) w (Ex.trans P.out.2.2.1 hpre)⟩
    exact hK _ _ (hJ.mod (by rw [hls]; decide) HFX (by rw [hT]; exact trivial) hc1 (Or.inl rfl) (fun _ => hfin) hord)
   intro listed f w3 hall hJ
   have xf : (fun w9 => ∃ D9, wr.heap.size ≤ D9 ∧ TB w9 D9 (.slice none 0 0) [] ∧ Bk w9 M 140 (ptrs (k + 1) (updF D k D9)).toArray ∧ TS w9 w.heap.size k D r v ∧ Ex w w9) w3 := hJ.fin (hall 6 (by simp))
   simp only [putAll, Act.put, List.setIfInBounds_toArray, List.set_cons_zero, List.set_cons_succ, Nat.zero_add, Nat.reduceAdd]
   clear hJ hall hT HFX hFst
   obtain ⟨D9, h1, h2, h3, h4, h5⟩ := xf
   have P2 : Hid (Bk w3 M 140 (ptrs (k + 1) (updF D k D9)).toArray ∧ TS w3 w.heap.size (k + 1) (updF D k D9) (updF r k (.slice none 0 0)) (updF v k []) ∧ Ex w w3 ∧ ∀ i, i < k + 1 → updF v k [] i = []) := Lib.hid ⟨h3, P.out.2.1.push h4 h1 (Nat.le_trans P.out.2.2.1.sz' h1) h2, h5, fun i hi => by
        by_cases e : i = k
        ·rw [e, updF_same]
        rw [updF_ne _ _ e]; exact P.out.2.2.2 i (by omega)⟩
   clear P h1 h2 h3 h4 h5
   go_wp2_with fail
   (first | (refine ⟨?_, ?measure⟩; (repeat apply Exists.intro); refine ⟨?rel, rfl⟩) | refine ⟨?rel, ?measure⟩)
   case rel => exact ⟨k + 1, _, _, _, by omega, by go_num, P2⟩
   case measure => simp [intOf]; omega
  obtain rfl : k = 16 := by omega
  go_wp2_with fail
  go_ret
  exact ⟨M, D, r, v, rfl, ⟨P.out.1, P.out.2.1⟩, Nat.le_of_eq HM.out.symm, P.out.2.2.2, P.out.2.2.1⟩
end Go.Proofs.Ytmjfnpmnhehnkaa
namespace Go.Proofs.Ytmjfnpmnhehnkaa
open Go.RowKit
/-- the vaults of the first k tables -/
def allV (v : Nat → List Vt) (k : Nat) : List Vt := (List.range k).flatMap v
theorem allV_succ (v : Nat → List Vt) (k : Nat) : allV v (k + 1) = allV v k ++ v k := by
 unfold allV; rw [List.range_succ, List.flatMap_append]; simp
end Go.Proofs.Ytmjfnpmnhehnkaa
