/- Sx, Sy -/
import Derived.Test.YtmjfnpmnhehnkaaQaw
set_option maxRecDepth 100000
set_option maxHeartbeats 16000000
namespace Go.Proofs.Ytmjfnpmnhehnkaa
open Go.RowKit
theorem Try.sizeSt : (Try.prog.info? 115).map (·.size) = some 66 := by kernel_rfl
theorem sts_ones (m n : Int) (p : Nat → Pa) (D : Nat → Option Nat) : (stC m n p D).toArray.all (·.oneCell') = true := all_oneCell_toArray (by
 intro v hv
 unfold stC at hv
 rcases List.mem_append.1 hv with h | h
 ·simp only [List.mem_cons, List.not_mem_nil, or_false] at h
  rcases h with rfl | rfl <;> rfl
 ·obtain ⟨i, _, h⟩ := List.mem_flatMap.1 h
  simp only [partC, List.mem_cons, List.not_mem_nil, or_false] at h
  rcases h with rfl | rfl | rfl | rfl <;> rfl)
theorem ld_sts {o : Oper} {a : Act} {w : World} {K : Act → World → Prop} {Q : Exit → Act → World → Prop} {m n : Int} {p : Nat → Pa} {D : Nat → Option Nat} {M : Nat} (x : Operand) (ho : o.op = .load 115 x) (ha : a.eval x = .pointer (some ⟨M, 0, none⟩)) (h : Bk w M 115 (stC m n p D).toArray) (hk : K (a.put o.dst (.agg (stC m n p D).toArray)) w) : o.wp Try.prog a w K Q := by
 obtain ⟨dd, hd⟩ : ∃ d, Try.prog.underlying 115 = some d ∧ d.isRow = true := ⟨_, Try.underlying115, rfl⟩
 exact wp_ldp (C := stC m n p D) (stC m n p D) x M 0 dd ho ha h (by rw [List.drop_zero, List.take_length]) hd.1 hd.2 (by rw [Try.sizeSt]; rfl) hk
theorem st_sts {o : Oper} {a : Act} {w : World} {K : Act → World → Prop} {Q : Exit → Act → World → Prop} {m n : Int} {p : Nat → Pa} {D : Nat → Option Nat} (x y : Operand) (g : Nat) (ho : o.op = .store 115 x y) (ha : a.eval x = .pointer (some ⟨g, 0, none⟩)) (hy : a.eval y = .agg (stC m n p D).toArray) {Y : Array Value} (hB : Bk w g 115 Y) (hY : Y.size = 66) (hk : ∀ w', Bk w' g 115 (stC m n p D).toArray → Only g w w' → K (a.put o.dst undef) w') : o.wp Try.prog a w K Q := by
 have hB' : Bk w g 115 Y.toList.toArray := by simpa using hB
 refine wp_stp (stC m n p D) x y g 0 ho ha hy hB' (by rw [stC_len]; simp [hY]) (by rw [Try.sizeSt]; rfl) (sts_ones m n p D) (fun w' h1 h2 => hk w' ?_ h2)
 have e : Y.toList.take 0 ++ stC m n p D ++ Y.toList.drop (0 + (stC m n p D).length) = stC m n p D := by
  rw [List.take_zero, List.nil_append, List.drop_eq_nil_of_le (by rw [stC_len]; simp [hY]), List.append_nil]
 rw [e] at h1; exact h1
theorem stC_setD (m n : Int) (p : Nat → Pa) (E : Nat → Option Nat) (d : Nat) {i : Nat} (hi : i < 16) : (stC m n p E).set (2 + i * 4 + 3) (.pointer (some ⟨d, 0, none⟩)) = stC m n p (updF E i (some d)) := by
 refine stC_ext (by rw [List.length_set, stC_len]) ?_ ?_ ?_
 ·rw [List.getElem?_set_ne (by omega)]; rfl
 ·rw [List.getElem?_set_ne (by omega)]; rfl
 intro a b ha hb
 by_cases e : a = i ∧ b = 3
 ·obtain ⟨rfl, rfl⟩ := e
  rw [List.getElem?_set_self (by rw [stC_len]; omega), updF_same]; rfl
 rw [List.getElem?_set_ne (by omega), stC_at m n p E ha hb]
 by_cases e2 : a = i
 ·subst e2
  rw [updF_same]
  have hb3 : b = 0 ∨ b = 1 ∨ b = 2 := by omega
  rcases hb3 with rfl | rfl | rfl <;> rfl
 rw [updF_ne _ _ e2]
def mixD (D D2 : Nat → Nat) (k : Nat) : Nat → Option Nat := fun i => some (if i < k then D2 i else D i)
theorem mixD_next (D D2 : Nat → Nat) (k d : Nat) : updF (mixD D D2 k) k (some d) = mixD D (updF D2 k d) (k + 1) := by
 funext i
 unfold updF mixD
 split
 ·rename_i h; rw [h, if_pos (Nat.lt_succ_self k)]; show some d = some (if k = k then d else D2 k); rw [if_pos rfl]
 rename_i h
 by_cases h2 : i < k
 ·rw [if_pos h2, if_pos (by omega)]; show some (D2 i) = some (if i = k then d else D2 i); rw [if_neg h]
 rw [if_neg h2, if_neg (by omega)]
def SCopyPost (m n : Int) (p : Nat → Pa) (v : Nat → List Vt) (w : World) (e : Ending) (w' : World) : Prop := ∃ (M : Nat) (D : Nat → Nat) (r : Nat → Value) (v2 : Nat → List Vt), e = .returned (.pointer (some ⟨M, 0, none⟩)) ∧ SS w' w.heap.size M m n p D r v2 ∧ w.heap.size ≤ M ∧ (∀ i, i < 16 → (v2 i).map Vt.ct = (v i).map Vt.ct) ∧ Ex w w'
theorem scopy_any (B M : Nat) (m n : Int) (p : Nat → Pa) (D : Nat → Nat) (r : Nat → Value) (v : Nat → List Vt) (hr : ∀ i, i < 16 → Rising (v i)) (w : World) (h : SS w B M m n p D r v) : Calls Try.prog 22 #[.pointer (some ⟨M, 0, none⟩)] w (SCopyPost m n p v w) := by
 have HS := Hi h
 have HR := Hi hr
 clear h hr
 go_enter Try.func22, Try.ntmps22
 go_wp2_with (first | (with_reducible refine stop_ix ?_) | ((with_reducible refine so4 [112, 1000 + 112, 113, 115, 1000 + 115, 1000 + 110] ?_ ?_); (focus rfl)))
 refine at9 (by go_simp) fun K0 hK => ld_sts _ rfl rfl HS.out.blk (hK _ _ ?_)
 clear hK
 go_wp2_with (first | (with_reducible refine stop_ix ?_) | ((with_reducible refine so4 [112, 1000 + 112, 113, 115, 1000 + 115, 1000 + 110] ?_ ?_); (focus rfl)))
 refine at9 (by go_simp) fun K0 hK => st_sts _ _ w.heap.size rfl rfl rfl (Bk.new rfl _ _) (by rfl) (fun w1 hd ho => hK _ _ ?_)
 clear hK
 have x1 : Ex w w1 := ho.below w.heap.size (Nat.le_refl _) w (Ex.alloc w _)
 obtain ⟨M, hM⟩ : ∃ g, g = w.heap.size := ⟨_, rfl⟩
 rw [← hM] at hd ⊢
 have HM := Hi hM
 have B0 := Hi hd
 have X0 := Hi x1
 clear hd ho hM x1
 go_wp2_with (first | (with_reducible refine stop_ix ?_) | ((with_reducible refine so4 [112, 1000 + 112, 113, 115, 1000 + 115, 1000 + 110] ?_ ?_); (focus rfl)))
 refine at9 (by go_simp) fun K0 hK => ld_sps _ rfl rfl (HS.out.ext X0.out).blk (hK _ _ ?_)
 clear hK
 go_wp2_with (first | (with_reducible refine stop_ix ?_) | ((with_reducible refine so4 [112, 1000 + 112, 113, 115, 1000 + 115, 1000 + 110] ?_ ?_); (focus rfl)))
 go_loopw [13] (fun i wr => ∃ (k : Nat) (D2 : Nat → Nat) (r2 : Nat → Value) (v2 : Nat → List Vt), k ≤ 16 ∧ i = .int .i64 k ∧ Hid (Bk wr M 115 (stC m n p (mixD D D2 k)).toArray ∧ TS wr w.heap.size k D2 r2 v2 ∧ Ex w wr ∧ ∀ i, i < k → (v2 i).map Vt.ct = (v i).map Vt.ct)) (fun i _ => 16 - (intOf i).toNat)
 case atStart => exact ⟨0, fun _ => 0, fun _ => .slice none 0 0, fun _ => [], by omega, rfl, Hi ⟨B0.out, ⟨fun i hi => absurd hi (Nat.not_lt_zero i), fun i hi => absurd hi (Nat.not_lt_zero i), fun i j hi => absurd hi (Nat.not_lt_zero i), fun i j hi => absurd hi (Nat.not_lt_zero i)⟩, X0.out, fun i hi => absurd hi (Nat.not_lt_zero i)⟩⟩
 clear B0 X0
 obtain ⟨k, D2, r2, v2, hk, rfl, P⟩ := hrel
 by_cases hlt : k < 16
 rotate_left
 ·obtain rfl : k = 16 := by omega
  go_wp2_with fail
  go_ret
  exact ⟨M, D2, r2, v2, rfl, ⟨by rw [stC_congr (q := p) (E := mixD D D2 16) (fun i hi => rfl) (fun i hi => by unfold mixD; rw [if_pos hi])]; exact P.out.1, P.out.2.1, HS.out.ok, HS.out.mok⟩, Nat.le_of_eq HM.out.symm, P.out.2.2.2, P.out.2.2.1⟩
 have q0 : (0 : Int) ≤ (k : Int) := by omega
 have q1 : (k : Int) < 16 := by omega
 go_wp2_with (first | (with_reducible refine stop_ix ?_) | ((with_reducible refine so4 [112, 1000 + 112, 113, 115, 1000 + 115, 1000 + 110] ?_ ?_); (focus rfl)))
 refine at9 (by go_simp) fun K0 hK => wp_ixs _ _ p (fun i => some (D i)) k hlt rfl rfl rfl (hK _ _ ?_)
 clear hK
 go_wp2_with (first | (with_reducible refine stop_ix ?_) | ((with_reducible refine so4 [112, 1000 + 112, 113, 115, 1000 + 115, 1000 + 110] ?_ ?_); (focus rfl)))
 refine at9 (by go_simp) fun K0 hK => st_pb _ _ wr.heap.size (p k) (some (D k)) rfl rfl rfl (Bk.new rfl _ _) (by rfl) (fun w3 hd ho => hK _ _ ?_)
 clear hK
 have x3 : Ex wr w3 := ho.below wr.heap.size (Nat.le_refl _) wr (Ex.alloc wr _)
 obtain ⟨g, hg⟩ : ∃ g, g = wr.heap.size := ⟨_, rfl⟩
 rw [← hg] at hd ⊢
 have HPB := Hi hd
 replace P := Hi (And.intro (P.out.1.ext x3) (And.intro (P.out.2.1.ext x3) (And.intro (Ex.trans P.out.2.2.1 x3) P.out.2.2.2)))
 clear hd ho hg x3
 go_wp2_with fail
 refine (tnew_any w3).mono ?_
 rintro e w4 ⟨D9, rfl, h1, h2, x4⟩
 have HLD : Hid (w.heap.size ≤ D9) := Hi (Nat.le_trans P.out.2.2.1.sz' h1)
 have TP := P.out.2.1.push (P.out.2.1.ext x4) h1 HLD.out h2
 have P4 : Hid (Bk w4 M 115 (stC m n p (mixD D D2 k)).toArray ∧ TS w4 w.heap.size (k + 1) (updF D2 k D9) (updF r2 k (.slice none 0 0)) (updF v2 k []) ∧ Ex w w4 ∧ ∀ i, i < k → (v2 i).map Vt.ct = (v i).map Vt.ct) := Hi ⟨P.out.1.ext x4, TP, Ex.trans P.out.2.2.1 x4, P.out.2.2.2⟩
 have HT := Hi h2
 replace HPB := Hi (HPB.out.ext x4)
 clear P TP h1 h2 x4
 go_wp2_with (first | (with_reducible refine stop_ix ?_) | ((with_reducible refine so4 [112, 1000 + 112, 113, 115, 1000 + 115, 1000 + 110] ?_ ?_); (focus rfl)))
 refine at9 (by go_simp) fun K0 hK => wp_st1 _ _ M (2 + k * 4 + 3) (.pointer (some ⟨D9, 0, none⟩)) rfl rfl rfl P4.out.1 (by rw [stC_len]; omega) (by kernel_rfl) rfl (fun w5 hd ho => hK _ _ ?_)
 clear hK
 have kt : Kt [115] w.heap.size w4 w5 := Kt.md ho.md (Nat.le_of_eq HM.out.symm) P4.out.1 (List.mem_singleton.2 rfl)
 have P5 : Hid (Bk w5 M 115 (stC m n p (mixD D (updF D2 k D9) (k + 1))).toArray ∧ TS w5 w.heap.size (k + 1) (updF D2 k D9) (updF r2 k (.slice none 0 0)) (updF v2 k []) ∧ Ex w w5 ∧ ∀ i, i < k → (v2 i).map Vt.ct = (v i).map Vt.ct) := Hi ⟨by rw [← mixD_next, ← stC_setD m n p _ _ hlt]; exact hd, P4.out.2.1.kts kt (by decide) (by decide) (by decide), Below.trans P4.out.2.2.1 kt.below, P4.out.2.2.2⟩
 replace HT := Hi (HT.out.kts kt (by decide) (by decide) (by decide))
 have HPB5 : Hid (PB9 w5 g (p k) (some (D k))) := Hi (kt.bk HPB.out (by decide))
 clear P4 HPB hd ho kt
 go_wp2_with fail
 obtain ⟨T, hT⟩ : ∃ T : List Sx, T = [.is (.int .i64 (k : Int)), .is (.pointer (some ⟨M, 2, none⟩)), .is (.pointer (some ⟨M, 2 + k * 4, none⟩)), .is (.pointer (some ⟨M, 2 + k * 4 + 3, none⟩)), .is (.pointer (some ⟨D9, 0, none⟩)), .is (.pointer (some ⟨g, 3, none⟩)), .is (.pointer (some ⟨D k, 0, none⟩)), .of (fun v9 w9 => ∃ ys : List Vt, VRow w9 w5.heap.size v9 ys ∧ ys.map Vt.ct = (v k).map Vt.ct) (fun v9 _ _ h k => by obtain ⟨ys, h1, h2⟩ := h; exact ⟨ys, h1.ext k, h2⟩), .any] := ⟨_, rfl⟩
 have HFX : T.map Sx.fixed = [true, true, true, true, true, true, true, false, true] := by rw [hT]; rfl
 have hFst : ∀ wa wb, (fun w9 => ∃ (r3 : Nat → Value) (v3 : Nat → List Vt), Bk w9 M 115 (stC m n p (mixD D (updF D2 k D9) (k + 1))).toArray ∧ TS w9 w.heap.size (k + 1) (updF D2 k D9) r3 v3 ∧ Ex w w9 ∧ ∀ i, i < k + 1 → (v3 i).map Vt.ct = (v i).map Vt.ct) wa → Ex wa wb → (fun w9 => ∃ (r3 : Nat → Value) (v3 : Nat → List Vt), Bk w9 M 115 (stC m n p (mixD D (updF D2 k D9) (k + 1))).toArray ∧ TS w9 w.heap.size (k + 1) (updF D2 k D9) r3 v3 ∧ Ex w w9 ∧ ∀ i, i < k + 1 → (v3 i).map Vt.ct = (v i).map Vt.ct) wb := fun _ _ h k9 => by obtain ⟨r3, v3, h0, h1, h2, h3⟩ := h; exact ⟨r3, v3, h0.ext k9, h1.ext k9, Ex.trans h2 k9, h3⟩
 refine wp_region_gen (JE w5 T ([none, none, none, none, none, none, none, some 8, none] : List (Option Nat)) ([(8, 4), (8, 7), (7, 6)] : List (Nat × Nat)) 8 8 (fun w9 => ∃ (r3 : Nat → Value) (v3 : Nat → List Vt), Bk w9 M 115 (stC m n p (mixD D (updF D2 k D9) (k + 1))).toArray ∧ TS w9 w.heap.size (k + 1) (updF D2 k D9) r3 v3 ∧ Ex w w9 ∧ ∀ i, i < k + 1 → (v3 i).map Vt.ct = (v i).map Vt.ct)) (by kernel_rfl) (by kernel_rfl) (by kernel_rfl) (fitB_spec (by kernel_rfl)) (fun listed f h => JE.start listed f h) ?_ ?_
 ·intro i o ho
  have hi : i < 9 := (Array.getElem?_eq_some_iff.1 ho).1
  have hi' : i = 0 ∨ i = 1 ∨ i = 2 ∨ i = 3 ∨ i = 4 ∨ i = 5 ∨ i = 6 ∨ i = 7 ∨ i = 8 := by omega
  clear hi
  rcases hi' with rfl | rfl | rfl | rfl | rfl | rfl | rfl | rfl | rfl
  all_goals (simp only [List.getElem?_toArray, List.getElem?_cons_zero, List.getElem?_cons_succ, Option.some.injEq] at ho; subst ho; intro listed f a w6 hJ hsz hls hun hdep hout hlat; first | (rw [if_pos (by rfl)]; intro K hK) | skip)
  ·have q4 := hout 4 ob
   exact wp_mw _ rfl q4 (hK _ _ (hJ.plain (by rw [hls]; decide) hFst (by decide) (Ex.refl _) (by rw [hT]; rfl) nh))
  ·have q3 := hout 3 ob
   rw [gd9] at q3
   clear hsz hdep hout hlat
   go_simp
   exact hK _ _ (hJ.plain (by rw [hls]; decide) hFst (by decide) (Ex.refl _) (by rw [hT]; first | rfl | exact congrArg (Value.int .i64) (by omega) | exact congrArg (Value.int .i64) (by rw [IntKind.wrap_i64]; omega)) nh)
  ·have q23 := hJ.iv hT (hdep ⟨1, .data⟩ (by simp) rfl) rfl rfl _ rfl _ rfl
   have q22 := hJ.iv hT (hdep ⟨0, .data⟩ (by simp) rfl) rfl rfl _ rfl _ rfl
   clear hsz hdep hout hlat
   go_simp
   exact hK _ _ (hJ.plain (by rw [hls]; decide) hFst (by decide) (Ex.refl _) (by rw [hT]; first | rfl | exact congrArg (Value.int .i64) (by omega) | exact congrArg (Value.int .i64) (by rw [IntKind.wrap_i64]; omega)) nh)
  ·have q24 := hJ.iv hT (hdep ⟨2, .data⟩ (by simp) rfl) rfl rfl _ rfl _ rfl
   clear hsz hdep hout hlat
   go_simp
   exact hK _ _ (hJ.plain (by rw [hls]; decide) hFst (by decide) (Ex.refl _) (by rw [hT]; first | rfl | exact congrArg (Value.int .i64) (by omega) | exact congrArg (Value.int .i64) (by rw [IntKind.wrap_i64]; omega)) nh)
  ·have q25 := hJ.iw hT (hdep ⟨3, .data⟩ (by simp) rfl) rfl rfl _ rfl _ rfl
   have hcut : listed.getD 8 false = false := by
    cases hc : listed.getD 8 false with
    | false => rfl
    | true =>
     have hc0 := hJ.ord (8, 4) (by simp) hc
     exact absurd hc0 (by rw [hun]; decide)
   have hpre := hJ.pre hcut
   have c6 : w6.cell? ⟨M, 2 + k * 4 + 3, none⟩ = some (.pointer (some ⟨D9, 0, none⟩)) := by
    rw [(P5.out.1.ext hpre).cell, List.getElem?_toArray, stC_at m n p _ hlt (show 3 < 4 by decide)]
    have e : mixD D (updF D2 k D9) (k + 1) k = some D9 := by unfold mixD; rw [if_pos (Nat.lt_succ_self k), updF_same]
    rw [e]; rfl
   rw [gd9] at q25
   clear hsz hdep hout hlat
   go_simp
   exact hK _ _ (hJ.plain (by rw [hls]; decide) hFst (by decide) (Ex.refl _) (by rw [hT]; rfl) nh)
  ·have q5 := hout 5 ob
   rw [gd9] at q5
   clear hsz hdep hout hlat
   go_simp
   exact hK _ _ (hJ.plain (by rw [hls]; decide) hFst (by decide) (Ex.refl _) (by rw [hT]; first | rfl | exact congrArg (Value.int .i64) (by omega) | exact congrArg (Value.int .i64) (by rw [IntKind.wrap_i64]; omega)) nh)
  ·have q27 := hJ.iw hT (hdep ⟨5, .data⟩ (by simp) rfl) rfl rfl _ rfl _ rfl
   have hcut : listed.getD 8 false = false := by
    cases hc : listed.getD 8 false with
    | false => rfl
    | true =>
     have hc0 := hJ.ord (8, 7) (by simp) hc
     have hc1 := hJ.ord (7, 6) (by simp) hc0
     exact absurd hc1 (by rw [hun]; decide)
   have hpre := hJ.pre hcut
   have c6 : w6.cell? ⟨g, 3, none⟩ = some (.pointer (some ⟨D k, 0, none⟩)) := (HPB5.out.ext hpre).cells.2.2.2
   rw [gd9] at q27
   clear hsz hdep hout hlat
   go_simp
   exact hK _ _ (hJ.plain (by rw [hls]; decide) hFst (by decide) (Ex.refl _) (by rw [hT]; rfl) nh)
  ·have q28 := hJ.iw hT (hdep ⟨6, .data⟩ (by simp) rfl) rfl rfl _ rfl _ rfl
   have hl6 := (hdep ⟨6, .data⟩ (by simp) rfl).1
   have hord : ∀ x ∈ ([(8, 4), (8, 7), (7, 6)] : List (Nat × Nat)), x.1 = 7 → listed.getD x.2 false = true := (by intro x hx he; simp only [List.mem_cons, List.not_mem_nil, or_false] at hx; rcases hx with rfl | rfl | rfl; all_goals first | (exact absurd he (by decide)) | assumption)
   have hcut : listed.getD 8 false = false := by
    cases hc : listed.getD 8 false with
    | false => rfl
    | true =>
     have hc0 := hJ.ord (8, 7) (by simp) hc
     exact absurd hc0 (by rw [hun]; decide)
   have hpre := hJ.pre hcut
   rw [gd9] at q28
   clear hsz hdep hout hlat
   go_simp
   refine (tall_any (D k) (r k) (v k) w6 ((HS.out.ext (Ex.trans P5.out.2.2.1 hpre)).ts.tb k hlt)).mono ?_
   rintro e w7 ⟨v9, ys, rfl, h1, h2, x4⟩
   exact hK _ _ (hJ.plain (by rw [hls]; decide) hFst (by decide) x4 (by rw [hT]; exact ⟨ys, h1.less hpre.sz', h2⟩) hord)
  have q26 := hJ.iw hT (hdep ⟨4, .data⟩ (by simp) rfl) rfl rfl _ rfl _ rfl
  have dd29 := hdep ⟨7, .data⟩ (by simp) rfl
  have q29 := dd29.2 _ rfl _ rfl
  have h29 := hJ.vals 7 dd29.1 (fun c hc => by have hc : some 8 = some c := hc; cases hc; exact hun)
  rw [hT] at h29
  have h29 : (fun v9 w9 => ∃ ys : List Vt, VRow w9 w5.heap.size v9 ys ∧ ys.map Vt.ct = (v k).map Vt.ct) (f 7) w6 := h29
  obtain ⟨ys29, r29, c29⟩ := h29
  obtain ⟨v29, e29⟩ : ∃ v, v = f 7 := ⟨_, rfl⟩
  rw [← e29] at r29 q29
  clear e29
  clear dd29
  have hl4 := (hdep ⟨4, .data⟩ (by simp) rfl).1
  have hl7 := (hdep ⟨7, .data⟩ (by simp) rfl).1
  have hord : ∀ x ∈ ([(8, 4), (8, 7), (7, 6)] : List (Nat × Nat)), x.1 = 8 → listed.getD x.2 false = true := (by intro x hx he; simp only [List.mem_cons, List.not_mem_nil, or_false] at hx; rcases hx with rfl | rfl | rfl; all_goals first | (exact absurd he (by decide)) | assumption)
  have hcut := hun
  have hpre := hJ.pre hcut
  have hc1 : ∀ j, j ≠ 8 → ([true, true, true, true, true, true, true, false, true] : List Bool).getD j true = false → listed.getD j false = true → ∃ c, (([none, none, none, none, none, none, none, some 8, none] : List (Option Nat))).getD j none = some c ∧ (c = 8 ∨ listed.getD c false = true) := by
   intro j hj hfj hl
   have hm : j = 7 := by
    rcases Nat.lt_or_ge j 9 with h | h
    ·have hk : j = 0 ∨ j = 1 ∨ j = 2 ∨ j = 3 ∨ j = 4 ∨ j = 5 ∨ j = 6 ∨ j = 7 ∨ j = 8 := by omega
     rcases hk with rfl | rfl | rfl | rfl | rfl | rfl | rfl | rfl | rfl <;> first | (exact absurd hfj (by decide)) | simp
    ·rw [List.getD_eq_getElem?_getD, List.getElem?_eq_none (by simpa using h)] at hfj; cases hfj
   rcases hm with rfl
   ·exact ⟨8, rfl, Or.inl rfl⟩
  rw [gd9] at q26 q29
  have HC1 := Hi hc1
  clear hc1
  have HHD := Hi @hdep
  clear hsz hout hlat
  go_simp
  refine (fill_from (HT.out.ext hpre) r29 (rising_ct c29 (HR.out k hlt))).mono ?_
  rintro e w7 ⟨rfl, rv', zs, a1, a2, a3, a4, a5⟩
  have hc1 := HC1.out
  have hfin : ∃ (r3 : Nat → Value) (v3 : Nat → List Vt), Bk w7 M 115 (stC m n p (mixD D (updF D2 k D9) (k + 1))).toArray ∧ TS w7 w.heap.size (k + 1) (updF D2 k D9) r3 v3 ∧ Ex w w7 ∧ ∀ i, i < k + 1 → (v3 i).map Vt.ct = (v i).map Vt.ct := by
   refine ⟨_, _, a4.bk (P5.out.1.ext hpre) (by decide), (P5.out.2.1.ext hpre).fill (Nat.lt_succ_self k) (by rw [updF_same]; exact a1) (by rw [updF_same]; exact a5) a3, Below.trans (Ex.trans P5.out.2.2.1 hpre) (a4.below.mono HLD.out), fun i hi => ?_⟩
   by_cases e : i = k
   ·rw [e, updF_same, a2, c29]
   ·rw [updF_ne _ _ e, updF_ne _ _ e]; exact P5.out.2.2.2 i (by omega)
  exact hK _ _ (hJ.mod (by rw [hls]; decide) HFX (by rw [hT]; exact trivial) hc1 (Or.inl rfl) (fun _ => hfin) hord)
 intro listed f w6 hall hJ
 have xf : (fun w9 => ∃ (r3 : Nat → Value) (v3 : Nat → List Vt), Bk w9 M 115 (stC m n p (mixD D (updF D2 k D9) (k + 1))).toArray ∧ TS w9 w.heap.size (k + 1) (updF D2 k D9) r3 v3 ∧ Ex w w9 ∧ ∀ i, i < k + 1 → (v3 i).map Vt.ct = (v i).map Vt.ct) w6 := hJ.fin (hall 8 (by simp))
 simp only [putAll, Act.put, List.setIfInBounds_toArray, List.set_cons_zero, List.set_cons_succ, Nat.zero_add, Nat.reduceAdd]
 clear hJ hall hT HFX hFst
 obtain ⟨r3, v3, h0, h1, h2, h3⟩ := xf
 have P2 := Hi (And.intro h0 (And.intro h1 (And.intro h2 h3)))
 clear P5 h0 h1 h2 h3
 go_wp2_with fail
 (first | (refine ⟨?_, ?measure⟩; (repeat apply Exists.intro); refine ⟨?rel, rfl⟩) | refine ⟨?rel, ?measure⟩)
 case rel => exact ⟨k + 1, _, r3, v3, by omega, by go_num, P2⟩
 case measure => simp [intOf]; omega
end Go.Proofs.Ytmjfnpmnhehnkaa
namespace Go.Proofs.Ytmjfnpmnhehnkaa
open Go.RowKit
theorem eqf_any (ad bd : Option Addr) (cap cap2 : Nat) (xs ys : List Vt) (w : World) (hL : xs.length ≤ 1000) (hL2 : ys.length ≤ 1000) (ha : Vp.In ad cap xs w) (hb : Vp.In bd cap2 ys w) (va : ∀ (i : Nat) (x : Vt), xs[i]? = some x → VI w x) (vb : ∀ (i : Nat) (x : Vt), ys[i]? = some x → VI w x) : Calls Try.prog 65 #[.slice ad xs.length cap, .slice bd ys.length cap2, (.func (.func 66) #[] #[])] w fun e w' => e = .returned (.bool (decide (xs.map Vt.ct = ys.map Vt.ct))) ∧ Ex w w' := by
 obtain ⟨n, hn⟩ : ∃ n, n = xs.length := ⟨_, rfl⟩
 obtain ⟨m, hm⟩ : ∃ n, n = ys.length := ⟨_, rfl⟩
 have HA := Hi ha
 have HB := Hi hb
 have VA := Hi va
 have VB9 := Hi vb
 rw [← hn] at hL ⊢
 rw [← hm] at hL2 ⊢
 have HN := Hi hn
 have HM := Hi hm
 clear ha hb va vb hn hm
 by_cases hne : n = m
 rotate_left
 ·have RR := Hi (show decide (xs.map Vt.ct = ys.map Vt.ct) = false from decide_eq_false (fun e => hne (by have := congrArg List.length e; simp only [List.length_map] at this; rw [HN.out, HM.out, this])))
  generalize decide (xs.map Vt.ct = ys.map Vt.ct) = R at *
  have e1 : ((n : Int) == (m : Int)) = false := by simp; omega
  have e2 : ((n : Int) != (m : Int)) = true := by simp; omega
  go_enter Try.func65, Try.ntmps65
  go_wp2_with fail
  go_ret
  exact ⟨congrArg (fun b => Ending.returned (.bool b)) RR.out.symm, Ex.refl _⟩
 subst hne
 have D0 := Hi (show (∀ i : Nat, i < n → (xs[i]?).map Vt.ct = (ys[i]?).map Vt.ct) → decide (xs.map Vt.ct = ys.map Vt.ct) = true from fun h => decide_eq_true (List.ext_getElem? (fun i => by
  rw [List.getElem?_map, List.getElem?_map]
  rcases Nat.lt_or_ge i n with hi | hi
  ·exact h i hi
  ·rw [List.getElem?_eq_none (by rw [← HN.out]; exact hi), List.getElem?_eq_none (by rw [← HM.out]; exact hi)])))
 have D1 := Hi (show ∀ i : Nat, (xs[i]?).map Vt.ct ≠ (ys[i]?).map Vt.ct → decide (xs.map Vt.ct = ys.map Vt.ct) = false from fun i h => decide_eq_false (fun e => h (by rw [← List.getElem?_map, ← List.getElem?_map, e])))
 generalize decide (xs.map Vt.ct = ys.map Vt.ct) = R at *
 go_enter Try.func65, Try.ntmps65
 go_wp2_with fail
 go_loopw [17] (fun i wr => ∃ k : Nat, k ≤ n ∧ i = .int .i64 k ∧ Hid (∀ j, j < k → (xs[j]?).map Vt.ct = (ys[j]?).map Vt.ct) ∧ Hid (Ex w wr)) (fun i _ => n - (intOf i).toNat)
 case atStart => exact ⟨0, by omega, rfl, Hi fun j hj => by omega, Hi (Ex.refl _)⟩
 obtain ⟨k, hk, rfl, OK, BX⟩ := hrel
 by_cases hlt : k < n
 rotate_left
 ·obtain rfl : k = n := by omega
  have q1 : ¬ (k : Int) < (k : Int) := by omega
  have RR := Hi (D0.out OK.out)
  go_wp2_with fail
  go_ret
  exact ⟨congrArg (fun b => Ending.returned (.bool b)) RR.out.symm, BX.out⟩
 have q0 : (0 : Int) ≤ (k : Int) := by omega
 have q1 : (k : Int) < (n : Int) := by omega
 obtain ⟨x, hx⟩ : ∃ x, xs[k]? = some x := ⟨_, List.getElem?_eq_getElem (by rw [← HN.out]; exact hlt)⟩
 obtain ⟨y, hy⟩ : ∃ x, ys[k]? = some x := ⟨_, List.getElem?_eq_getElem (by rw [← HM.out]; exact hlt)⟩
 obtain ⟨ab, ofs, rfl, _, hra⟩ := (HA.out.ext BX.out).read (by rw [← HN.out]; omega)
 have XV := Hi ((VA.out k x hx).ext BX.out)
 have XR := Hi (hra k x hx)
 obtain ⟨ib, io, rfl, hib, hrb⟩ := (HB.out.ext BX.out).read (by rw [← HM.out]; omega)
 have YV := Hi ((VB9.out k y hy).ext BX.out)
 have YR : Hid (∀ wq, Ex wr wq → wq.rangeAt ib (io + k * 42) y.C) := Hi (fun wq e j u hu => (Below.cell (p := ⟨ib, io + k * 42 + j, none⟩) e hib).trans (hrb k y hy j u hu))
 have HX := Hi hx
 have HY := Hi hy
 clear hra hrb hx hy hib
 go_wp2_with ((with_reducible refine so0 ?_ ?_); (focus rfl))
 refine at9 (by go_simp) fun K0 hK => ld_vr _ ab (ofs + k * 42) x XV.out.ok rfl rfl XR.out (hK _ _ ?_)
 clear hK
 go_wp2_with ((with_reducible refine so0 ?_ ?_); (focus rfl))
 refine at9 (by go_simp) fun K0 hK => st_v _ _ wr.heap.size x rfl rfl rfl XV.out.ok (Bk.new rfl _ _) (by rfl) (fun w3 hd ho => hK _ _ ?_)
 clear hK
 have x3 : Ex wr w3 := ho.below wr.heap.size (Nat.le_refl _) wr (Ex.alloc wr _)
 obtain ⟨g1, hg⟩ : ∃ g, g = wr.heap.size := ⟨_, rfl⟩
 rw [← hg] at hd ⊢
 have HD := Hi hd
 replace BX := Hi (Ex.trans BX.out x3)
 have YR3 := Hi (YR.out _ x3)
 replace XV := Hi (XV.out.ext x3)
 replace YV := Hi (YV.out.ext x3)
 clear hd ho hg x3 XR YR
 go_wp2_with ((with_reducible refine so0 ?_ ?_); (focus rfl))
 refine at9 (by go_simp) fun K0 hK => ld_vr _ ib (io + k * 42) y YV.out.ok rfl rfl YR3.out (hK _ _ ?_)
 clear hK
 go_wp2_with ((with_reducible refine so0 ?_ ?_); (focus rfl))
 refine at9 (by go_simp) fun K0 hK => st_v _ _ w3.heap.size y rfl rfl rfl YV.out.ok (Bk.new rfl _ _) (by rfl) (fun w4 hd ho => hK _ _ ?_)
 clear hK
 have x4 : Ex w3 w4 := ho.below w3.heap.size (Nat.le_refl _) w3 (Ex.alloc w3 _)
 obtain ⟨g2, hg⟩ : ∃ g, g = w3.heap.size := ⟨_, rfl⟩
 rw [← hg] at hd ⊢
 have HE := Hi hd
 replace HD := Hi (HD.out.ext x4)
 replace BX := Hi (Ex.trans BX.out x4)
 replace XV := Hi (XV.out.ext x4)
 replace YV := Hi (YV.out.ext x4)
 clear hd ho hg x4 YR3
 go_wp2_with ((with_reducible refine so0 ?_ ?_); (focus rfl))
 refine at9 (by go_simp) fun K0 hK => ld_v _ g1 x rfl rfl HD.out (hK _ _ ?_)
 clear hK
 go_wp2_with ((with_reducible refine so0 ?_ ?_); (focus rfl))
 refine at9 (by go_simp) fun K0 hK => ld_v _ g2 y rfl rfl HE.out (hK _ _ ?_)
 clear hK
 go_wp2_with fail
 refine (vsame_any x y w4 XV.out YV.out).mono ?_
 rintro e w5 ⟨rfl, x5⟩
 replace BX := Hi (Ex.trans BX.out x5)
 clear x5 XV YV HD HE
 by_cases e : x.ct = y.ct
 ·rw [decide_eq_true e]
  have OK2 : Hid (∀ j, j < k + 1 → (xs[j]?).map Vt.ct = (ys[j]?).map Vt.ct) := Hi fun j hj => by
   by_cases e3 : j = k
   ·subst e3; rw [HX.out, HY.out]; exact congrArg some e
   ·exact OK.out j (by omega)
  clear e
  go_wp2_with fail
  (first | (refine ⟨?_, ?measure⟩; (repeat apply Exists.intro); refine ⟨?rel, rfl⟩) | refine ⟨?rel, ?measure⟩)
  case rel => exact ⟨k + 1, by omega, by go_num, OK2, BX⟩
  case measure => simp [intOf]; omega
 rw [decide_eq_false e]
 have RR := Hi (D1.out k (by rw [HX.out, HY.out]; intro h; exact e (Option.some.inj h)))
 clear e
 go_wp2_with fail
 go_ret
 exact ⟨congrArg (fun b => Ending.returned (.bool b)) RR.out.symm, BX.out⟩
end Go.Proofs.Ytmjfnpmnhehnkaa
