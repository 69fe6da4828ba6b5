/- Ua, Ub, Uc -/
import Derived.Test.YtmjfnpmnhehnkaaXan
namespace Go.Proofs.Ytmjfnpmnhehnkaa
open Go.RowKit
/-- blocks of rows are not one -/
def Djn (v v' : Value) : Prop := ∀ g, v.ownBlock = some g → v'.ownBlock ≠ some g
theorem Djn.symm {v v' : Value} (h : Djn v v') : Djn v' v := fun g h1 h2 => h g h2 h1
theorem TB.D_ne {w : World} {D gb : Nat} {rv : Value} {vs : List Vt} {cs : Array Value} (h : TB w D rv vs) (hb : Bk w gb 36 cs) : D ≠ gb := fun e => by
 subst e
 have h1 := h.blk
 unfold Bk at h1 hb
 rw [h1] at hb; cases hb
theorem TB.other {w w' : World} {D D' : Nat} {rv rv' : Value} {vs vs' : List Vt} (h : TB w D rv vs) (h' : TB w D' rv' vs') (k : Tc D' rv'.ownBlock w w') (hd : D ≠ D') (hr : Djn rv rv') : TB w' D rv vs := by
 have hrow := h'.row.blk
 have keep : ∀ x, TVN w x → TVN w' x := fun x hx => by
  rcases hrow with e | ⟨gb, e, _, _, hb⟩
  ·exact hx.tc (gb := 0) k h'.blk (Or.inl e)
  ·exact hx.tc k h'.blk (Or.inr ⟨e, hb⟩)
 refine ⟨k.bk h.blk hd (fun e => ?_), ⟨⟨h.row.row.1, h.row.row.2.imp id fun ⟨g, cap, cur, hv, hB, hg, hrest⟩ => ⟨g, cap, cur, hv, hB, ?_, hrest⟩⟩, fun i x hx => keep x (h.row.ins i x hx)⟩, h.len, h.srt⟩
 ·rcases hrow with e2 | ⟨gb, e2, _, _, cs, hb⟩
  ·rw [e2] at e; cases e
  rw [e2] at e; cases e
  exact h.D_ne hb rfl
 exact (show Bk w' g 36 cur from k.bk hg (fun e => by subst e; exact h'.D_ne hg rfl) (fun e => hr g (by rw [hv]; rfl) e.symm))
/-- n tables, each with blocks of its own -/
structure TS (w : World) (B n : Nat) (D : Nat → Nat) (r : Nat → Value) (v : Nat → List Vt) : Prop where
 tb : ∀ i, i < n → TB w (D i) (r i) (v i)
 lo : ∀ i, i < n → B ≤ D i
 dd : ∀ i j, i < n → j < n → i ≠ j → D i ≠ D j
 rr : ∀ i j, i < n → j < n → i ≠ j → Djn (r i) (r j)
theorem TS.ext {w w' : World} {B n : Nat} {D : Nat → Nat} {r : Nat → Value} {v : Nat → List Vt} (h : TS w B n D r v) (k : Ex w w') : TS w' B n D r v := ⟨fun i hi => (h.tb i hi).ext k, h.lo, h.dd, h.rr⟩
def updF {α : Type} (f : Nat → α) (k : Nat) (x : α) : Nat → α := fun i => if i = k then x else f i
theorem updF_same {α : Type} (f : Nat → α) (k : Nat) (x : α) : updF f k x k = x := if_pos rfl
theorem updF_ne {α : Type} (f : Nat → α) {k i : Nat} (x : α) (h : i ≠ k) : updF f k x i = f i := if_neg h
/-- one table is turned, the others stay -/
theorem TS.turn {w w' : World} {B n k : Nat} {D : Nat → Nat} {r : Nat → Value} {v : Nat → List Vt} {rv' : Value} {vs' : List Vt} (h : TS w B n D r v) (hk : k < n) (ht : TB w' (D k) rv' vs') (htc : Tc (D k) (r k).ownBlock w w') (hl : Lies w (r k) rv') :
  TS w' B n D (updF r k rv') (updF v k vs') := by
 refine ⟨fun i hi => ?_, h.lo, h.dd, fun i j hi hj hij => ?_⟩
 ·by_cases e : i = k
  ·subst e; rw [updF_same, updF_same]; exact ht
  rw [updF_ne _ _ e, updF_ne _ _ e]
  exact (h.tb i hi).other (h.tb k hk) htc (h.dd i k hi hk e) (h.rr i k hi hk e)
 have fresh : ∀ i, i < n → i ≠ k → Djn (r i) rv' := fun i hi e g hg he => by
  rcases hl with h1 | h1
  ·exact h.rr i k hi hk e g hg (h1 ▸ he)
  ·have h2 := h1 g he
   have h3 := (h.tb i hi).row.row.lt g hg
   omega
 by_cases e : i = k
 ·subst e
  rw [updF_same, updF_ne _ _ (fun e => hij e.symm)]
  exact (fresh j hj (fun e => hij e.symm)).symm
 rw [updF_ne _ _ e]
 by_cases e2 : j = k
 ·subst e2; rw [updF_same]; exact fresh i hi e
 rw [updF_ne _ _ e2]; exact h.rr i j hi hj hij
theorem Md.tc {w w' : World} {D : Nat} {r : Option Nat} (h : Md D w w') : Tc D r w w' := by
 have hb := h.below 0 (Nat.zero_le _) w (Below.refl 0 w)
 exact ⟨hb.os, hb.tape, hb.output, h.size, fun k hk h1 _ => h.other k h1 hk⟩
/-- the table's row is made anew -/
theorem TS.fill {w w' : World} {B n k : Nat} {D : Nat → Nat} {r : Nat → Value} {v : Nat → List Vt} {rv' : Value} {vs' : List Vt} (h : TS w B n D r v) (hk : k < n) (ht : TB w' (D k) rv' vs') (hm : Md (D k) w w') (hf : ∀ g, rv'.ownBlock = some g → w.heap.size ≤ g) :
  TS w' B n D (updF r k rv') (updF v k vs') := h.turn hk ht hm.tc (Or.inr hf)
end Go.Proofs.Ytmjfnpmnhehnkaa
namespace Go.Proofs.Ytmjfnpmnhehnkaa
open Go.RowKit
theorem TB.kts {S : List Nat} {B : Nat} {w w' : World} {D : Nat} {rv : Value} {vs : List Vt} (h : TB w D rv vs) (k : Kt S B w w') (h1 : 169 ∉ S) (h2 : 36 ∉ S) (h3 : 5 ∉ S) : TB w' D rv vs :=
 ⟨k.bk h.blk h1, ⟨k.row h.row.row h2, fun i x hx => (h.row.ins i x hx).kt k h3⟩, h.len, h.srt⟩
theorem TS.kts {S : List Nat} {B B' n : Nat} {w w' : World} {D : Nat → Nat} {r : Nat → Value} {v : Nat → List Vt} (h : TS w B n D r v) (k : Kt S B' w w') (h1 : 169 ∉ S) (h2 : 36 ∉ S) (h3 : 5 ∉ S) : TS w' B n D r v :=
 ⟨fun i hi => (h.tb i hi).kts k h1 h2 h3, h.lo, h.dd, h.rr⟩
/-- a table more -/
theorem TS.push {w w' : World} {B n D' : Nat} {D : Nat → Nat} {r : Nat → Value} {v : Nat → List Vt} (h : TS w B n D r v) (h' : TS w' B n D r v) (hD : w.heap.size ≤ D') (hB : B ≤ D') (ht : TB w' D' (.slice none 0 0) []) : TS w' B (n + 1) (updF D n D') (updF r n (.slice none 0 0)) (updF v n []) := by
 have hlt : ∀ i, i < n → D i < w.heap.size := fun i hi => (h.tb i hi).blk.lt
 refine ⟨fun i hi => ?_, fun i hi => ?_, fun i j hi hj hij => ?_, fun i j hi hj hij => ?_⟩
 ·by_cases e : i = n
  ·subst e; rw [updF_same, updF_same, updF_same]; exact ht
  rw [updF_ne _ _ e, updF_ne _ _ e, updF_ne _ _ e]; exact h'.tb i (by omega)
 ·by_cases e : i = n
  ·subst e; rw [updF_same]; exact hB
  rw [updF_ne _ _ e]; exact h.lo i (by omega)
 ·by_cases e : i = n
  ·subst e
   rw [updF_same, updF_ne _ _ (fun e => hij e.symm)]
   have := hlt j (by omega); omega
  rw [updF_ne _ _ e]
  by_cases e2 : j = n
  ·subst e2; rw [updF_same]; have := hlt i (by omega); omega
  rw [updF_ne _ _ e2]; exact h.dd i j (by omega) (by omega) hij
 by_cases e : i = n
 ·subst e; rw [updF_same]; exact fun g hg => by cases hg
 rw [updF_ne _ _ e]
 by_cases e2 : j = n
 ·subst e2; rw [updF_same]; exact fun g hg he => by cases he
 rw [updF_ne _ _ e2]; exact h.rr i j (by omega) (by omega) hij
/-- pointers to the first k of sixteen tables -/
def ptrs (k : Nat) (D : Nat → Nat) : List Value := (List.range 16).map fun j => if j < k then .pointer (some ⟨D j, 0, none⟩) else .pointer none
theorem ptrs_len (k : Nat) (D : Nat → Nat) : (ptrs k D).length = 16 := by unfold ptrs; rw [List.length_map, List.length_range]
theorem ptrs_set (k : Nat) (D : Nat → Nat) (D' : Nat) : (ptrs k D).set k (.pointer (some ⟨D', 0, none⟩)) = ptrs (k + 1) (updF D k D') := by
 apply List.ext_getElem?
 intro i
 by_cases e : k = i
 ·subst e
  by_cases h : k < 16
  ·rw [List.getElem?_set_self (by rw [ptrs_len]; exact h)]
   unfold ptrs
   rw [List.getElem?_map, List.getElem?_range h]
   simp [updF_same]
  rw [List.getElem?_eq_none (by rw [List.length_set, ptrs_len]; omega), List.getElem?_eq_none (by rw [ptrs_len]; omega)]
 rw [List.getElem?_set_ne e]
 unfold ptrs
 rw [List.getElem?_map, List.getElem?_map]
 by_cases h : i < 16
 ·rw [List.getElem?_range h]
  simp only [Option.map_some, Option.some.injEq]
  rw [updF_ne _ _ (fun e2 => e e2.symm)]
  by_cases h2 : i < k
  ·rw [if_pos h2, if_pos (by omega)]
  rw [if_neg h2, if_neg (by omega)]
 rw [List.getElem?_eq_none (by rw [List.length_range]; omega)]; rfl
theorem ptrs_at (k : Nat) (D : Nat → Nat) (i : Nat) (hi : i < k) (h16 : i < 16) : (ptrs k D)[i]? = some (.pointer (some ⟨D i, 0, none⟩)) := by
 unfold ptrs
 rw [List.getElem?_map, List.getElem?_range h16]
 simp [hi]
/-- an ideal map: its block, its tables -/
structure IM (w : World) (B M : Nat) (D : Nat → Nat) (r : Nat → Value) (v : Nat → List Vt) : Prop where
 blk : Bk w M 140 (ptrs 16 D).toArray
 ts : TS w B 16 D r v
theorem IM.ext {w w' : World} {B M : Nat} {D : Nat → Nat} {r : Nat → Value} {v : Nat → List Vt} (h : IM w B M D r v) (k : Ex w w') : IM w' B M D r v := ⟨h.blk.ext k, h.ts.ext k⟩
def INewPost (w : World) (e : Ending) (w' : World) : Prop := ∃ (M : Nat) (D : Nat → Nat) (r : Nat → Value) (v : Nat → List Vt), e = .returned (.pointer (some ⟨M, 0, none⟩)) ∧ IM w' w.heap.size M D r v ∧ w.heap.size ≤ M ∧ (∀ i, i < 16 → v i = []) ∧ Ex w w'
set_option maxHeartbeats 4000000 in
set_option maxRecDepth 100000 in
theorem inew_any (w : World) : Calls Try.prog 38 #[] w (INewPost w) := by
 go_enter Try.func38, Try.ntmps38
 go_wp2_with fail
 change Code.wp _ _ _ _ (w.alloc (.cells (ptrs 0 (fun _ => 0)).toArray 140))
 have B0 : Hid (Bk (w.alloc (.cells (ptrs 0 (fun _ => 0)).toArray 140)) w.heap.size 140 (ptrs 0 (fun _ => 0)).toArray) := Hi (Bk.new rfl _ _)
 have X0 : Hid (Ex w (w.alloc (.cells (ptrs 0 (fun _ => 0)).toArray 140))) := Hi (Ex.alloc w _)
 obtain ⟨M, hM⟩ : ∃ M, M = w.heap.size := ⟨_, rfl⟩
 generalize hw1 : (w.alloc (.cells (ptrs 0 (fun _ => 0)).toArray 140)) = w1 at *
 rw [← hM] at B0 ⊢
 have HM := Hi hM
 clear hw1 hM
 go_loopw [5] (fun i wr => ∃ (k : Nat) (D : Nat → Nat) (r : Nat → Value) (v : Nat → List Vt), k ≤ 16 ∧ i = .int .i64 k ∧ Hid (Bk wr M 140 (ptrs k D).toArray ∧ TS wr w.heap.size k D r v ∧ Ex w wr ∧ ∀ i, i < k → v i = [])) (fun i _ => 16 - (intOf i).toNat)
 case atStart => exact ⟨0, _, fun _ => .slice none 0 0, fun _ => [], by omega, rfl, Hi ⟨B0.out, ⟨fun i hi => absurd hi (Nat.not_lt_zero i), fun i hi => absurd hi (Nat.not_lt_zero i), fun i j hi => absurd hi (Nat.not_lt_zero i), fun i j hi => absurd hi (Nat.not_lt_zero i)⟩, X0.out, fun i hi => absurd hi (Nat.not_lt_zero i)⟩⟩
 clear B0 X0
 obtain ⟨k, D, r, v, hk, rfl, P⟩ := hrel
 by_cases hlt : k < 16
 rotate_left
 ·obtain rfl : k = 16 := by omega
  go_wp2_with fail
  go_ret
  exact ⟨M, D, r, v, rfl, ⟨P.out.1, P.out.2.1⟩, Nat.le_of_eq HM.out.symm, P.out.2.2.2, P.out.2.2.1⟩
 have q0 : (0 : Int) ≤ (k : Int) := by omega
 have q1 : (k : Int) < 16 := by omega
 go_wp2_with fail
 obtain ⟨T, hT⟩ : ∃ T : List Sx, T = [.is (.pointer (some ⟨M, 0, none⟩)), .is (.int .i64 k), .of (fun v9 w9 => ∃ D9, v9 = .pointer (some ⟨D9, 0, none⟩) ∧ wr.heap.size ≤ D9 ∧ TB w9 D9 (.slice none 0 0) []) (fun v9 _ _ h k => by obtain ⟨D9, h1, h2, h3⟩ := h; exact ⟨D9, h1, h2, h3.ext k⟩), .is (.pointer (some ⟨M, 0, none⟩)), .is (.pointer (some ⟨M, 0, none⟩)), .is (.pointer (some ⟨M, k, none⟩)), .any] := ⟨_, rfl⟩
 have HFX : T.map Sx.fixed = [true, true, false, true, true, true, true] := by rw [hT]; rfl
 have hFst : ∀ wa wb, (fun w9 => ∃ D9, wr.heap.size ≤ D9 ∧ TB w9 D9 (.slice none 0 0) [] ∧ Bk w9 M 140 (ptrs (k + 1) (updF D k D9)).toArray ∧ TS w9 w.heap.size k D r v ∧ Ex w w9) wa → Ex wa wb → (fun w9 => ∃ D9, wr.heap.size ≤ D9 ∧ TB w9 D9 (.slice none 0 0) [] ∧ Bk w9 M 140 (ptrs (k + 1) (updF D k D9)).toArray ∧ TS w9 w.heap.size k D r v ∧ Ex w w9) wb := fun _ _ h k9 => by obtain ⟨D9, h1, h2, h3, h4, h5⟩ := h; exact ⟨D9, h1, h2.ext k9, h3.ext k9, h4.ext k9, Ex.trans h5 k9⟩
 refine wp_region_gen (JE wr T ([none, none, some 6, none, none, none, none] : List (Option Nat)) ([(6, 2)] : List (Nat × Nat)) 6 6 (fun w9 => ∃ D9, wr.heap.size ≤ D9 ∧ TB w9 D9 (.slice none 0 0) [] ∧ Bk w9 M 140 (ptrs (k + 1) (updF D k D9)).toArray ∧ TS w9 w.heap.size k D r v ∧ Ex w w9)) (by kernel_rfl) (by kernel_rfl) (by kernel_rfl) (fitB_spec (by kernel_rfl)) (fun listed f h => JE.start listed f h) ?_ ?_
 ·intro i o ho
  have hi : i < 7 := (Array.getElem?_eq_some_iff.1 ho).1
  have hi' : i = 0 ∨ i = 1 ∨ i = 2 ∨ i = 3 ∨ i = 4 ∨ i = 5 ∨ i = 6 := by omega
  clear hi
  rcases hi' with rfl | rfl | rfl | rfl | rfl | rfl | rfl
  all_goals (simp only [List.getElem?_toArray, List.getElem?_cons_zero, List.getElem?_cons_succ, Option.some.injEq] at ho; subst ho; intro listed f a w3 hJ hsz hls hun hdep hout hlat; first | (rw [if_pos (by rfl)]; intro K hK) | skip)
  ·have q1 := hout 1 (outB_spec (by kernel_rfl))
   refine wp_mv _ rfl (hK _ _ ?_)
   rw [show a.eval (.tmp 1) = .pointer (some ⟨M, 0, none⟩) from q1]
   exact hJ.plain (by rw [hls]; decide) hFst (by decide) (Ex.refl _) (by rw [hT]; rfl) (no_head (by decide))
  ·have q2 := hout 2 (outB_spec (by kernel_rfl))
   refine wp_mv _ rfl (hK _ _ ?_)
   rw [show a.eval (.tmp 2) = .int .i64 k from q2]
   exact hJ.plain (by rw [hls]; decide) hFst (by decide) (Ex.refl _) (by rw [hT]; rfl) (no_head (by decide))
  ·have hcut : listed.getD 6 false = false := by
    cases hc : listed.getD 6 false with
    | false => rfl
    | true =>
     have hc0 := hJ.ord (6, 2) (by simp) hc
     exact absurd hc0 (by rw [hun]; decide)
   have hpre := hJ.pre hcut
   clear hsz hdep hout hlat
   go_simp
   refine (tnew_any w3).mono ?_
   rintro e w4 ⟨D9, rfl, h1, h2, x4⟩
   exact hK _ _ (hJ.plain (by rw [hls]; decide) hFst (by decide) x4 (by rw [hT]; exact ⟨D9, rfl, Nat.le_trans hpre.sz' h1, h2⟩) (no_head (by decide)))
  ·have dd8 := hdep ⟨0, .data⟩ (by simp) rfl
   have q8 := dd8.2 _ rfl _ rfl
   have h8 := hJ.vals 0 dd8.1 no_c
   rw [hT] at h8
   rw [show f 0 = .pointer (some ⟨M, 0, none⟩) from h8] at q8
   clear h8
   clear dd8
   rw [Array.getD_eq_getD_getElem?] at q8
   clear hsz hdep hout hlat
   go_simp
   exact hK _ _ (hJ.plain (by rw [hls]; decide) hFst (by decide) (Ex.refl _) (by rw [hT]; rfl) (no_head (by decide)))
  ·have dd11 := hdep ⟨3, .data⟩ (by simp) rfl
   have q11 := dd11.2 _ rfl _ rfl
   have h11 := hJ.vals 3 dd11.1 no_c
   rw [hT] at h11
   rw [show f 3 = .pointer (some ⟨M, 0, none⟩) from h11] at q11
   clear h11
   clear dd11
   rw [Array.getD_eq_getD_getElem?] at q11
   clear hsz hdep hout hlat
   go_simp
   exact hK _ _ (hJ.plain (by rw [hls]; decide) hFst (by decide) (Ex.refl _) (by rw [hT]; rfl) (no_head (by decide)))
  ·have dd12 := hdep ⟨4, .data⟩ (by simp) rfl
   have q12 := dd12.2 _ rfl _ rfl
   have h12 := hJ.vals 4 dd12.1 no_c
   rw [hT] at h12
   rw [show f 4 = .pointer (some ⟨M, 0, none⟩) from h12] at q12
   clear h12
   clear dd12
   have dd9 := hdep ⟨1, .data⟩ (by simp) rfl
   have q9 := dd9.2 _ rfl _ rfl
   have h9 := hJ.vals 1 dd9.1 no_c
   rw [hT] at h9
   rw [show f 1 = .int .i64 k from h9] at q9
   clear h9
   clear dd9
   rw [Array.getD_eq_getD_getElem?] at q12 q9
   clear hsz hdep hout hlat
   go_simp
   exact hK _ _ (hJ.plain (by rw [hls]; decide) hFst (by decide) (Ex.refl _) (by rw [hT]; rfl) (no_head (by decide)))
  have dd13 := hdep ⟨5, .data⟩ (by simp) rfl
  have q13 := dd13.2 _ rfl _ rfl
  have h13 := hJ.vals 5 dd13.1 no_c
  rw [hT] at h13
  rw [show f 5 = .pointer (some ⟨M, k, none⟩) from h13] at q13
  clear h13
  clear dd13
  have dd10 := hdep ⟨2, .data⟩ (by simp) rfl
  have q10 := dd10.2 _ rfl _ rfl
  have h10 := hJ.vals 2 dd10.1 (fun c hc => by have hc : some 6 = some c := hc; cases hc; exact hun)
  rw [hT] at h10
  have h10 : (fun v9 w9 => ∃ D9, v9 = .pointer (some ⟨D9, 0, none⟩) ∧ wr.heap.size ≤ D9 ∧ TB w9 D9 (.slice none 0 0) []) (f 2) w3 := h10
  obtain ⟨D10, e10, l10, b10⟩ := h10
  rw [e10] at q10
  clear dd10
  have hl2 := (hdep ⟨2, .data⟩ (by simp) rfl).1
  have hord : ∀ x ∈ ([(6, 2)] : List (Nat × Nat)), x.1 = 6 → listed.getD x.2 false = true := (by intro x hx he; simp only [List.mem_cons, List.not_mem_nil, or_false] at hx; rcases hx with rfl; all_goals first | (exact absurd he (by decide)) | assumption)
  have hcut := hun
  have hpre := hJ.pre hcut
  have hc1 : ∀ j, j ≠ 6 → ([true, true, false, true, true, true, true] : List Bool).getD j true = false → listed.getD j false = true → ∃ c, (([none, none, some 6, none, none, none, none] : List (Option Nat))).getD j none = some c ∧ (c = 6 ∨ listed.getD c false = true) := by
   intro j hj hfj hl
   have hm : j = 2 := by
    rcases Nat.lt_or_ge j 7 with h | h
    ·have hk : j = 0 ∨ j = 1 ∨ j = 2 ∨ j = 3 ∨ j = 4 ∨ j = 5 ∨ j = 6 := by omega
     rcases hk with rfl | rfl | rfl | rfl | rfl | rfl | rfl <;> first | (exact absurd hfj (by decide)) | simp
    ·rw [List.getD_eq_getElem?_getD, List.getElem?_eq_none (by simpa using h)] at hfj; cases hfj
   rcases hm with rfl
   ·exact ⟨6, rfl, Or.inl rfl⟩
  have hb := P.out.1.ext hpre
  refine wp_st1 (C := ptrs k D) _ _ M k (.pointer (some ⟨D10, 0, none⟩)) rfl q13 q10 hb (by rw [ptrs_len]; exact hlt) (by kernel_rfl) rfl (fun w5 hd ho => ?_)
  have kt : Kt [140] 0 w3 w5 := Kt.md ho.md (Nat.zero_le _) hb (List.mem_singleton.2 rfl)
  have hfin : ∃ D9, wr.heap.size ≤ D9 ∧ TB w5 D9 (.slice none 0 0) [] ∧ Bk w5 M 140 (ptrs (k + 1) (updF D k D9)).toArray ∧ TS w5 w.heap.size k D r v ∧ Ex w w5 := ⟨D10, l10, b10.kts kt (by decide) (by decide) (by decide), by rw [← ptrs_set]; exact hd, (P.out.2.1.ext hpre).kts kt (by decide) (by decide) (by decide), ho.below w.heap.size (Nat.le_of_eq HM.out.symm) w (Ex.trans P.out.2.2.1 hpre)⟩
  exact hK _ _ (hJ.mod (by rw [hls]; decide) HFX (by rw [hT]; exact trivial) hc1 (Or.inl rfl) (fun _ => hfin) hord)
 intro listed f w3 hall hJ
 have xf : (fun w9 => ∃ D9, wr.heap.size ≤ D9 ∧ TB w9 D9 (.slice none 0 0) [] ∧ Bk w9 M 140 (ptrs (k + 1) (updF D k D9)).toArray ∧ TS w9 w.heap.size k D r v ∧ Ex w w9) w3 := hJ.fin (hall 6 (by simp))
 simp only [putAll, Act.put, List.setIfInBounds_toArray, List.set_cons_zero, List.set_cons_succ, Nat.zero_add, Nat.reduceAdd]
 clear hJ hall hT HFX hFst
 obtain ⟨D9, h1, h2, h3, h4, h5⟩ := xf
 have P2 : Hid (Bk w3 M 140 (ptrs (k + 1) (updF D k D9)).toArray ∧ TS w3 w.heap.size (k + 1) (updF D k D9) (updF r k (.slice none 0 0)) (updF v k []) ∧ Ex w w3 ∧ ∀ i, i < k + 1 → updF v k [] i = []) := Hi ⟨h3, P.out.2.1.push h4 h1 (Nat.le_trans P.out.2.2.1.sz' h1) h2, h5, fun i hi => by
      by_cases e : i = k
      ·rw [e, updF_same]
      ·rw [updF_ne _ _ e]; exact P.out.2.2.2 i (by omega)⟩
 clear P h1 h2 h3 h4 h5
 go_wp2_with fail
 (first | (refine ⟨?_, ?measure⟩; (repeat apply Exists.intro); refine ⟨?rel, rfl⟩) | refine ⟨?rel, ?measure⟩)
 case rel => exact ⟨k + 1, _, _, _, by omega, by go_num, P2⟩
 case measure => simp [intOf]; omega
end Go.Proofs.Ytmjfnpmnhehnkaa
namespace Go.Proofs.Ytmjfnpmnhehnkaa
open Go.RowKit
theorem Try.sizePa : (Try.prog.info? 138).map (·.size) = some 16 := by kernel_rfl
theorem Try.sizePt : (Try.prog.info? 110).map (·.size) = some 1 := by kernel_rfl
theorem stop_ix {P : Program} {ops : Array Oper} {rest : List Oper} {d : Option Tmp} {x y : Operand} {t t2 : TypeId} {pos : String} {af : Array Edge} {g : Option (Nat × Bool)} {a : Act} {w : World} {Q : Exit → Act → World → Prop}
  (k : Stop (wpList P ops Q ({ dst := d, op := .index t x y, type := t2, pos := pos, after := af, guard := g } :: rest) a w)) : wpList P ops Q ({ dst := d, op := .index t x y, type := t2, pos := pos, after := af, guard := g } :: rest) a w := k.go
theorem wp_ix {o : Oper} {a : Act} {w : World} {K : Act → World → Prop} {Q : Exit → Act → World → Prop} (x y : Operand) (D : Nat → Nat) (k : Nat) (hk : k < 16) (ho : o.op = .index 138 x y) (hx : a.eval x = .agg (ptrs 16 D).toArray) (hy : a.eval y = .int .i64 k) (h : K (a.put o.dst (.pointer (some ⟨D k, 0, none⟩))) w) : o.wp Try.prog a w K Q := by
 obtain ⟨i, hi, hs⟩ := Option.map_eq_some_iff.1 Try.sizePt
 have hp := ptrs_at 16 D k hk hk
 have h1 : k < (ptrs 16 D).length := by rw [ptrs_len]; exact hk
 have h2 : (ptrs 16 D)[k] = .pointer (some ⟨D k, 0, none⟩) := by rw [List.getElem?_eq_getElem h1] at hp; exact Option.some.inj hp
 have q0 : (k : Int) < 16 := by omega
 have key : (Instr.index 138 (.agg (ptrs 16 D).toArray) (.int .i64 k)).run Try.prog w = .ok (.pointer (some ⟨D k, 0, none⟩)) w := by
  simp [Instr.index, asIntOf, run_underlying Try.underlying138, run_underlying Try.underlying110, sizeOf, typeInfo, hi, hs, part, isAgg, q0, h1, h2]
  all_goals (intro h9; omega)
 unfold Oper.wp
 simp [execOp, ho, hx, hy, key, Result.andThen]
 exact h
theorem ld_pa {o : Oper} {a : Act} {w : World} {K : Act → World → Prop} {Q : Exit → Act → World → Prop} (y : Operand) (M : Nat) (D : Nat → Nat) (ho : o.op = .load 138 y) (ha : a.eval y = .pointer (some ⟨M, 0, none⟩)) (h : Bk w M 140 (ptrs 16 D).toArray) (hk : K (a.put o.dst (.agg (ptrs 16 D).toArray)) w) : o.wp Try.prog a w K Q := by
 obtain ⟨dd, hd⟩ : ∃ d, Try.prog.underlying 138 = some d ∧ d.isRow = true := ⟨_, Try.underlying138, rfl⟩
 exact wp_load_mid 138 y ho M 0 ha (ptrs 16 D) dd h.range hd.1 hd.2 (by rw [Try.sizePa, ptrs_len]) hk
/-- the vaults of the first k tables -/
def allV (v : Nat → List Vt) (k : Nat) : List Vt := (List.range k).flatMap v
theorem allV_succ (v : Nat → List Vt) (k : Nat) : allV v (k + 1) = allV v k ++ v k := by
 unfold allV; rw [List.range_succ, List.flatMap_append]; simp
theorem allV_len (v : Nat → List Vt) (h : ∀ i, i < 16 → (v i).length ≤ 4) : ∀ k, k ≤ 16 → (allV v k).length ≤ k * 4
 | 0, _ => Nat.le_refl 0
 | k + 1, hk => by rw [allV_succ, List.length_append]; have := allV_len v h k (by omega); have := h k (by omega); omega
theorem VRow.apps {w w2 : World} {B B2 : Nat} {v v' v2 : Value} {xs ys : List Vt} (h : VRow w B v xs) (k : Kt [36] B w w2) (hr : w2.ownsRow B 36 42 v' (xs.length + ys.length) (xs.flatMap Vt.C ++ ys.flatMap Vt.C)) (hy : VRow w B2 v2 ys) : VRow w2 B v' (xs ++ ys) :=
 ⟨by rw [List.length_append, List.flatMap_append]; exact hr, fun i x hx => by
  rcases List.mem_append.1 (List.mem_of_getElem? hx) with h1 | h1
  ·obtain ⟨j, hj, e⟩ := List.getElem_of_mem h1
   exact (h.ins j x (by rw [List.getElem?_eq_getElem hj, e])).kt k (by decide)
  ·obtain ⟨j, hj, e⟩ := List.getElem_of_mem h1
   exact (hy.ins j x (by rw [List.getElem?_eq_getElem hj, e])).kt k (by decide)⟩
set_option maxHeartbeats 4000000 in
set_option maxRecDepth 100000 in
theorem iall_any (B M : Nat) (D : Nat → Nat) (r : Nat → Value) (v : Nat → List Vt) (w : World) (h : IM w B M D r v) : Calls Try.prog 41 #[.pointer (some ⟨M, 0, none⟩)] w (RowPost ((allV v 16).map Vt.ct) w) := by
 have HIM := Hi h
 have HV4 : Hid (∀ i, i < 16 → (v i).length ≤ 4) := Hi (fun i hi => (h.ts.tb i hi).len)
 clear h
 go_enter Try.func41, Try.ntmps41
 go_wp2_with (first | (with_reducible refine stop_load (t := 138) ?_) | (with_reducible refine stop_app ?_))
 refine at9 (by go_simp) fun K0 hK => ld_pa _ M D rfl rfl HIM.out.blk (hK _ _ ?_)
 clear hK
 obtain ⟨pa, hpa⟩ : ∃ pa, pa = (ptrs 16 D).toArray := ⟨_, rfl⟩
 rw [← hpa]
 have HPA := Hi hpa
 clear hpa
 go_wp2_with (first | (with_reducible refine stop_app ?_) | (with_reducible refine stop_ix ?_))
 go_loopw [3, 10] (fun rv i wr => ∃ (k : Nat) (ys : List Vt), k ≤ 16 ∧ i = .int .i64 k ∧ Hid (VRow wr w.heap.size rv ys) ∧ Hid (ys.map Vt.ct = (allV v k).map Vt.ct) ∧ Hid (Ex w wr)) (fun _ i _ => 16 - (intOf i).toNat)
 case atStart => exact ⟨0, [], by omega, rfl, Hi (VRow.nil _ _), Hi rfl, Hi (Ex.refl _)⟩
 obtain ⟨k, ys, hk, rfl, VR, HY, BW⟩ := hrel
 by_cases hlt : k < 16
 rotate_left
 ·obtain rfl : k = 16 := by omega
  go_wp2_with fail
  go_ret
  exact ⟨_, ys, rfl, VR.out, HY.out, BW.out⟩
 have q0 : (0 : Int) ≤ (k : Int) := by omega
 have q1 : (k : Int) < 16 := by omega
 go_wp2_with (first | (with_reducible refine stop_app ?_) | (with_reducible refine stop_ix ?_))
 refine at9 (by go_simp) fun K0 hK => wp_ix _ _ D k hlt rfl (by rw [← HPA.out]; rfl) rfl (hK _ _ ?_)
 clear hK
 go_wp2_with (first | (with_reducible refine stop_app ?_) | (with_reducible refine stop_ix ?_))
 refine (tall_any (D k) (r k) (v k) wr ((HIM.out.ts.tb k hlt).ext BW.out)).mono ?_
 rintro e w3 ⟨v2, zs, rfl, h1, h2, x3⟩
 have VZ := Hi h1
 have HZ := Hi h2
 replace BW := Hi (Ex.trans BW.out x3)
 replace VR := Hi (VR.out.ext x3)
 clear h1 h2 x3
 obtain ⟨ad, cap, e2, hnil, hcap, hcm, hrd⟩ := own_rd VZ.out.row
 subst e2
 have RX := Hi (And.intro hnil (And.intro hcap hrd))
 clear hnil hcap hcm hrd
 have HL := Hi (show ys.length ≤ 64 ∧ zs.length ≤ 4 from by have h1 := congrArg List.length HY.out; have h2 := congrArg List.length HZ.out; simp only [List.length_map] at h1 h2; have h3 := allV_len v HV4.out k hk; have h4 := HV4.out k hlt; omega)
 go_wp2_with (first | (with_reducible refine stop_app ?_) | (with_reducible refine stop_ix ?_))
 refine at9 (by go_simp) fun K0 hK => wp_rd _ _ 37 36 zeroVt.V 42 96 rfl Try.underlying37 Try.infoVt rfl (by decide) w.heap.size ys.length _ _ rfl VR.out.row BW.out.sz' _ zs.length _ _ rfl RX.out.2.2 RX.out.2.1 RX.out.1 (vflat_one zs) (by have := HL.out; omega) (by have := HL.out; omega) (fun v5 w5 r1 r2 => hK _ _ ?_)
 clear hK
 replace BW := Hi (show Ex w w5 from Below.trans (show Below w.heap.size w _ from BW.out) r2.below)
 replace VR := Hi (VR.out.apps r2 r1 VZ.out)
 replace HY : Hid ((ys ++ zs).map Vt.ct = (allV v (k + 1)).map Vt.ct) := Hi (by rw [allV_succ, List.map_append, List.map_append, HY.out, HZ.out])
 clear r1 r2 RX VZ HZ HL
 go_wp2_with (first | (with_reducible refine stop_app ?_) | (with_reducible refine stop_ix ?_))
 (first | (refine ⟨?_, ?measure⟩; (repeat apply Exists.intro); refine ⟨?rel, rfl⟩) | refine ⟨?rel, ?measure⟩)
 case rel => exact ⟨k + 1, ys ++ zs, by omega, by go_num, VR, HY, BW⟩
 case measure => simp [intOf]; omega
end Go.Proofs.Ytmjfnpmnhehnkaa
