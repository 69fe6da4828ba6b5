/- Je, Wh, Wi -/
import Derived.Test.YtmjfnpmnhehnkaaXbc
import Derived.Test.YtmjfnpmnhehnkaaXax
namespace Go.Proofs.Ytmjfnpmnhehnkaa
open Go.RowKit
theorem Rc.eq_iff9 (a b : Rt) : decide (a.ct = b.ct) = (((((decide (a.why = b.why) && decide (a.id = b.id ∧ a.gen = b.gen)) && decide (a.left = b.left)) && decide (a.client = b.client)) && decide (a.num = b.num)) && decide (a.sec.l = b.sec.l)) := by
 have h : (a.ct = b.ct) ↔ (a.why = b.why ∧ a.id = b.id ∧ a.gen = b.gen ∧ a.left = b.left ∧ a.sec.l = b.sec.l ∧ a.client = b.client ∧ a.num = b.num) := Rc.eq_iff a.ct b.ct
 rw [Bool.eq_iff_iff, decide_eq_true_iff, h]
 simp only [decide_eq_true_eq, Bool.and_eq_true]
 constructor
 ·rintro ⟨h1, h2, h3, h4, h5, h6, h7⟩; exact ⟨⟨⟨⟨⟨h1, h2, h3⟩, h4⟩, h6⟩, h7⟩, h5⟩
 rintro ⟨⟨⟨⟨⟨h1, h2, h3⟩, h4⟩, h6⟩, h7⟩, h5⟩; exact ⟨h1, h2, h3, h4, h5, h6, h7⟩
set_option maxHeartbeats 8000000 in
set_option maxRecDepth 100000 in
theorem jsame_any (pa pb : Rt) (w : World) (ha : RI w pa) (hb : RI w pb) : Calls Try.prog 117 #[pa.V, pb.V] w fun e w' => e = .returned (.bool (decide (pa.ct = pb.ct))) ∧ Ex w w' := by
 rw [Rc.eq_iff9]
 obtain ⟨cs, hcs⟩ : ∃ cs, cs = pa.C.toArray := ⟨_, rfl⟩
 obtain ⟨ds, hds⟩ : ∃ cs, cs = pb.C.toArray := ⟨_, rfl⟩
 have A0 : Hid (RB ((w.alloc (.cells cs 83)).alloc (.cells ds 83)) w.heap.size pa) := Hi ⟨ha.ok, by rw [hcs]; exact (Bk.new rfl _ _).more _⟩
 have B0 : Hid (RB ((w.alloc (.cells cs 83)).alloc (.cells ds 83)) (w.heap.size + 1) pb) := Hi ⟨hb.ok, by rw [hds]; exact Bk.new (by simp) _ _⟩
 have BW : Hid (Ex w ((w.alloc (.cells cs 83)).alloc (.cells ds 83))) := Hi (Ex.trans (Ex.alloc w _) (Ex.alloc _ _))
 have AI := Hi (ha.ext BW.out)
 have BI := Hi (hb.ext BW.out)
 rw [show (Calls Try.prog 117 #[pa.V, pb.V] w) = (Calls Try.prog 117 #[.agg cs, .agg ds] w) by rw [hcs, hds]; rfl]
 clear hcs hds ha hb
 obtain ⟨e1, he⟩ : ∃ e, e = decide (pa.why = pb.why) := ⟨_, rfl⟩
 rw [← he]
 have E1 := Hi he
 clear he
 obtain ⟨e2, he⟩ : ∃ e, e = decide (pa.id = pb.id ∧ pa.gen = pb.gen) := ⟨_, rfl⟩
 rw [← he]
 have E2 := Hi he
 clear he
 obtain ⟨e3, he⟩ : ∃ e, e = decide (pa.left = pb.left) := ⟨_, rfl⟩
 rw [← he]
 have E3 := Hi he
 clear he
 obtain ⟨e4, he⟩ : ∃ e, e = decide (pa.client = pb.client) := ⟨_, rfl⟩
 rw [← he]
 have E4 := Hi he
 clear he
 obtain ⟨e5, he⟩ : ∃ e, e = decide (pa.num = pb.num) := ⟨_, rfl⟩
 rw [← he]
 have E5 := Hi he
 clear he
 obtain ⟨e6, he⟩ : ∃ e, e = decide (pa.sec.l = pb.sec.l) := ⟨_, rfl⟩
 rw [← he]
 have E6 := Hi he
 clear he
 go_enter Try.func117, Try.ntmps117
 go_wp2_with fail
 generalize hw1 : ((w.alloc (.cells cs 83)).alloc (.cells ds 83)) = w1 at *
 clear hw1
 obtain ⟨B, hB⟩ : ∃ B, B = w.heap.size := ⟨_, rfl⟩
 rw [← hB] at A0 B0 ⊢
 clear hB
 have hS0 : ∀ (listed : Array Bool) (f : Nat → Value), (∀ i, listed.getD i false = false) → Ex w1 w1.drew := fun _ _ _ => (Below.refl w1.heap.size w1).drew
 obtain ⟨T, hT⟩ : ∃ T : List (Value → Prop), T = [(fun zz => zz = .pointer (some ⟨B, 0, none⟩)), (fun zz => zz = .int .i64 pa.why), (fun zz => zz = .pointer (some ⟨B + 1, 0, none⟩)), (fun zz => zz = .int .i64 pb.why), (fun zz => zz = .bool e1), (fun zz => zz = .bool e1), (fun zz => e1 = true → zz = pa.V), (fun zz => e1 = true → zz = lifeV pa.id pa.gen), (fun zz => e1 = true → zz = pb.V), (fun zz => e1 = true → zz = lifeV pb.id pb.gen), (fun zz => e1 = true → zz = .bool e2), (fun zz => zz = .bool (e1 && e2)), (fun zz => zz = .bool (e1 && e2)), (fun zz => (e1 && e2) = true → zz = .pointer (some ⟨B, 6, none⟩)), (fun zz => (e1 && e2) = true → zz = .int .i64 pa.left), (fun zz => (e1 && e2) = true → zz = .pointer (some ⟨B + 1, 6, none⟩)), (fun zz => (e1 && e2) = true → zz = .int .i64 pb.left), (fun zz => (e1 && e2) = true → zz = .bool e3), (fun zz => zz = .bool ((e1 && e2) && e3)), (fun zz => zz = .bool ((e1 && e2) && e3)), (fun zz => ((e1 && e2) && e3) = true → zz = .pointer (some ⟨B, 8, none⟩)), (fun zz => ((e1 && e2) && e3) = true → zz = .int .i64 pa.client), (fun zz => ((e1 && e2) && e3) = true → zz = .pointer (some ⟨B + 1, 8, none⟩)), (fun zz => ((e1 && e2) && e3) = true → zz = .int .i64 pb.client), (fun zz => ((e1 && e2) && e3) = true → zz = .bool e4), (fun zz => zz = .bool (((e1 && e2) && e3) && e4)), (fun zz => zz = .bool (((e1 && e2) && e3) && e4)), (fun zz => (((e1 && e2) && e3) && e4) = true → zz = .pointer (some ⟨B, 9, none⟩)), (fun zz => (((e1 && e2) && e3) && e4) = true → zz = .int .u64 pa.num), (fun zz => (((e1 && e2) && e3) && e4) = true → zz = .pointer (some ⟨B + 1, 9, none⟩)), (fun zz => (((e1 && e2) && e3) && e4) = true → zz = .int .u64 pb.num), (fun zz => (((e1 && e2) && e3) && e4) = true → zz = .bool e5), (fun zz => zz = .bool ((((e1 && e2) && e3) && e4) && e5)), (fun zz => zz = .bool ((((e1 && e2) && e3) && e4) && e5)), (fun zz => ((((e1 && e2) && e3) && e4) && e5) = true → zz = .pointer (some ⟨B, 7, none⟩)), (fun zz => ((((e1 && e2) && e3) && e4) && e5) = true → zz = pa.sec.V), (fun zz => ((((e1 && e2) && e3) && e4) && e5) = true → zz = .pointer (some ⟨B + 1, 7, none⟩)), (fun zz => ((((e1 && e2) && e3) && e4) && e5) = true → zz = pb.sec.V), (fun zz => ((((e1 && e2) && e3) && e4) && e5) = true → zz = .bool e6), (fun zz => zz = .bool (((((e1 && e2) && e3) && e4) && e5) && e6)), (fun zz => zz = .bool (((((e1 && e2) && e3) && e4) && e5) && e6))] := ⟨_, rfl⟩
 refine wp_region_gen (JS T ([] : List (Nat × Nat)) (fun _ _ wq => Ex w1 wq)) (by kernel_rfl) (by kernel_rfl) (by kernel_rfl) (fitB_spec (by kernel_rfl)) (fun listed f h => JS.start listed f h (hS0 listed f h)) ?_ ?_
 ·intro i o ho
  have hi : i < 41 := (Array.getElem?_eq_some_iff.1 ho).1
  have hi' : i = 0 ∨ i = 1 ∨ i = 2 ∨ i = 3 ∨ i = 4 ∨ i = 5 ∨ i = 6 ∨ i = 7 ∨ i = 8 ∨ i = 9 ∨ i = 10 ∨ i = 11 ∨ i = 12 ∨ i = 13 ∨ i = 14 ∨ i = 15 ∨ i = 16 ∨ i = 17 ∨ i = 18 ∨ i = 19 ∨ i = 20 ∨ i = 21 ∨ i = 22 ∨ i = 23 ∨ i = 24 ∨ i = 25 ∨ i = 26 ∨ i = 27 ∨ i = 28 ∨ i = 29 ∨ i = 30 ∨ i = 31 ∨ i = 32 ∨ i = 33 ∨ i = 34 ∨ i = 35 ∨ i = 36 ∨ i = 37 ∨ i = 38 ∨ i = 39 ∨ i = 40 := by omega
  clear hi
  rcases hi' with rfl | rfl | rfl | rfl | rfl | rfl | rfl | rfl | rfl | rfl | rfl | rfl | rfl | rfl | rfl | rfl | rfl | rfl | rfl | rfl | rfl | rfl | rfl | rfl | rfl | rfl | rfl | rfl | rfl | rfl | rfl | rfl | rfl | rfl | rfl | rfl | rfl | rfl | rfl | rfl | rfl
  all_goals (simp only [List.getElem?_toArray, List.getElem?_cons_zero, List.getElem?_cons_succ, Option.some.injEq] at ho; subst ho; intro listed f a w4 hJ hsz hls hun hdep hout hlat; first | (rw [if_pos (by rfl)]; intro K hK) | skip)
  ·have q2 := hout 2 (outB_spec (by kernel_rfl))
   rw [Array.getD_eq_getD_getElem?] at q2
   clear hsz hdep hout hlat
   go_simp
   exact hK _ _ (hJ.nx hls hT rfl rfl hJ.st (no_head rfl))
  ·have q5 := hJ.iq hT (hdep ⟨0, .data⟩ (by simp) rfl) rfl _ rfl _ rfl
   have c0 := ((A0.out.ext hJ.st).cells.1)
   clear hsz hdep hout hlat
   go_simp
   exact hK _ _ (hJ.nx hls hT rfl rfl hJ.st (no_head rfl))
  ·have q3 := hout 3 (outB_spec (by kernel_rfl))
   rw [Array.getD_eq_getD_getElem?] at q3
   clear hsz hdep hout hlat
   go_simp
   exact hK _ _ (hJ.nx hls hT rfl rfl hJ.st (no_head rfl))
  ·have q7 := hJ.iq hT (hdep ⟨2, .data⟩ (by simp) rfl) rfl _ rfl _ rfl
   have c0 := ((B0.out.ext hJ.st).cells.1)
   clear hsz hdep hout hlat
   go_simp
   exact hK _ _ (hJ.nx hls hT rfl rfl hJ.st (no_head rfl))
  ·have q6 := hJ.is hT (hdep ⟨1, .data⟩ (by simp) rfl) rfl _ rfl _ rfl
   have q8 := hJ.is hT (hdep ⟨3, .data⟩ (by simp) rfl) rfl _ rfl _ rfl
   exact wp_eql_err _ _ _ rfl (pa.why) (pb.why) q6 q8 (hK _ _ (hJ.nx hls hT rfl (by exact congrArg Value.bool E1.out.symm) hJ.st (no_head rfl)))
  ·have q9 := hJ.is hT (hdep ⟨4, .data⟩ (by simp) rfl) rfl _ rfl _ rfl
   refine wp_mv _ rfl (hK _ _ ?_)
   rw [show a.eval (.tmp 9) = .bool e1 from q9]
   exact hJ.nx hls hT rfl rfl hJ.st (no_head rfl)
  ·have kg := hJ.is hT (hdep ⟨5, .guard⟩ (by simp) rfl) rfl _ rfl _ rfl
   by_cases hgb : e1 = true
   ·rw [hgb] at kg
    rw [if_pos (wanted_of rfl rfl rfl kg)]
    clear kg
    intro K hK
    have q2 := hout 2 (outB_spec (by kernel_rfl))
    exact ld_r _ (B) pa rfl q2 (A0.out.ext hJ.st) (hK _ _ (hJ.nx hls hT rfl (by exact fun _ => rfl) hJ.st (no_head rfl)))
   rw [Bool.not_eq_true] at hgb
   have hgf := hgb
   rw [hgb] at kg
   rw [if_neg (not_wanted rfl rfl rfl kg (by decide))]
   exact hJ.nx hls hT rfl (by exact fun h => by rw [hgf] at h; cases h) hJ.st (no_head rfl)
  ·have kg := hJ.is hT (hdep ⟨5, .guard⟩ (by simp) rfl) rfl _ rfl _ rfl
   by_cases hgb : e1 = true
   ·rw [hgb] at kg
    rw [if_pos (wanted_of rfl rfl rfl kg)]
    clear kg
    intro K hK
    have dd11 := hdep ⟨6, .data⟩ (by simp) rfl
    have q11 := dd11.2 _ rfl _ rfl
    have h11 := hJ.vals 6 dd11.1
    rw [hT] at h11
    have h11 : f 6 = pa.V := h11 hgb
    rw [h11] at q11
    clear h11 dd11
    rw [Array.getD_eq_getD_getElem?] at q11
    clear hsz hdep hout hlat
    go_simp
    refine (of_any pa w4 AI.out.ok).mono ?_
    rintro e wq ⟨rfl, xq⟩
    exact hK _ _ (hJ.nx hls hT rfl (by exact fun _ => rfl) (Ex.trans hJ.st xq) (no_head rfl))
   rw [Bool.not_eq_true] at hgb
   have hgf := hgb
   rw [hgb] at kg
   rw [if_neg (not_wanted rfl rfl rfl kg (by decide))]
   exact hJ.nx hls hT rfl (by exact fun h => by rw [hgf] at h; cases h) hJ.st (no_head rfl)
  ·have kg := hJ.is hT (hdep ⟨5, .guard⟩ (by simp) rfl) rfl _ rfl _ rfl
   by_cases hgb : e1 = true
   ·rw [hgb] at kg
    rw [if_pos (wanted_of rfl rfl rfl kg)]
    clear kg
    intro K hK
    have q3 := hout 3 (outB_spec (by kernel_rfl))
    exact ld_r _ (B + 1) pb rfl q3 (B0.out.ext hJ.st) (hK _ _ (hJ.nx hls hT rfl (by exact fun _ => rfl) hJ.st (no_head rfl)))
   rw [Bool.not_eq_true] at hgb
   have hgf := hgb
   rw [hgb] at kg
   rw [if_neg (not_wanted rfl rfl rfl kg (by decide))]
   exact hJ.nx hls hT rfl (by exact fun h => by rw [hgf] at h; cases h) hJ.st (no_head rfl)
  ·have kg := hJ.is hT (hdep ⟨5, .guard⟩ (by simp) rfl) rfl _ rfl _ rfl
   by_cases hgb : e1 = true
   ·rw [hgb] at kg
    rw [if_pos (wanted_of rfl rfl rfl kg)]
    clear kg
    intro K hK
    have dd13 := hdep ⟨8, .data⟩ (by simp) rfl
    have q13 := dd13.2 _ rfl _ rfl
    have h13 := hJ.vals 8 dd13.1
    rw [hT] at h13
    have h13 : f 8 = pb.V := h13 hgb
    rw [h13] at q13
    clear h13 dd13
    rw [Array.getD_eq_getD_getElem?] at q13
    clear hsz hdep hout hlat
    go_simp
    refine (of_any pb w4 BI.out.ok).mono ?_
    rintro e wq ⟨rfl, xq⟩
    exact hK _ _ (hJ.nx hls hT rfl (by exact fun _ => rfl) (Ex.trans hJ.st xq) (no_head rfl))
   rw [Bool.not_eq_true] at hgb
   have hgf := hgb
   rw [hgb] at kg
   rw [if_neg (not_wanted rfl rfl rfl kg (by decide))]
   exact hJ.nx hls hT rfl (by exact fun h => by rw [hgf] at h; cases h) hJ.st (no_head rfl)
  ·have kg := hJ.is hT (hdep ⟨5, .guard⟩ (by simp) rfl) rfl _ rfl _ rfl
   by_cases hgb : e1 = true
   ·rw [hgb] at kg
    rw [if_pos (wanted_of rfl rfl rfl kg)]
    clear kg
    intro K hK
    have dd12 := hdep ⟨7, .data⟩ (by simp) rfl
    have q12 := dd12.2 _ rfl _ rfl
    have h12 := hJ.vals 7 dd12.1
    rw [hT] at h12
    have h12 : f 7 = lifeV pa.id pa.gen := h12 hgb
    rw [h12] at q12
    clear h12 dd12
    have dd14 := hdep ⟨9, .data⟩ (by simp) rfl
    have q14 := dd14.2 _ rfl _ rfl
    have h14 := hJ.vals 9 dd14.1
    rw [hT] at h14
    have h14 : f 9 = lifeV pb.id pb.gen := h14 hgb
    rw [h14] at q14
    clear h14 dd14
    exact wp_eql_life _ _ _ rfl pa.id pb.id pa.gen pb.gen AI.out.ok.idN BI.out.ok.idN q12 q14 (hK _ _ (hJ.nx hls hT rfl (by exact fun _ => congrArg Value.bool E2.out.symm) hJ.st (no_head rfl)))
   rw [Bool.not_eq_true] at hgb
   have hgf := hgb
   rw [hgb] at kg
   rw [if_neg (not_wanted rfl rfl rfl kg (by decide))]
   exact hJ.nx hls hT rfl (by exact fun h => by rw [hgf] at h; cases h) hJ.st (no_head rfl)
  ·have q10 := hJ.iq hT (hdep ⟨5, .data⟩ (by simp) rfl) rfl _ rfl _ rfl
   have dd15 := hdep ⟨10, .data⟩ (by simp) rfl
   have q15 := dd15.2 _ rfl _ rfl
   have h15 := hJ.vals 10 dd15.1
   rw [hT] at h15
   have h15 : e1 = true → f 10 = .bool e2 := h15
   clear dd15
   clear hsz hdep hout hlat
   generalize hc : e1 = c at *
   cases c
   ·go_simp
    exact hK _ _ (hJ.nx hls hT rfl rfl hJ.st (no_head rfl))
   rw [show f 10 = .bool e2 from h15 rfl, Array.getD_eq_getD_getElem?] at q15
   go_simp
   exact hK _ _ (hJ.nx hls hT rfl rfl hJ.st (no_head rfl))
  ·have q16 := hJ.is hT (hdep ⟨11, .data⟩ (by simp) rfl) rfl _ rfl _ rfl
   refine wp_mv _ rfl (hK _ _ ?_)
   rw [show a.eval (.tmp 16) = .bool (e1 && e2) from q16]
   exact hJ.nx hls hT rfl rfl hJ.st (no_head rfl)
  ·have kg := hJ.is hT (hdep ⟨12, .guard⟩ (by simp) rfl) rfl _ rfl _ rfl
   by_cases hgb : (e1 && e2) = true
   ·rw [hgb] at kg
    rw [if_pos (wanted_of rfl rfl rfl kg)]
    clear kg
    intro K hK
    have q2 := hout 2 (outB_spec (by kernel_rfl))
    rw [Array.getD_eq_getD_getElem?] at q2
    clear hsz hdep hout hlat
    go_simp
    exact hK _ _ (hJ.nx hls hT rfl (by intro _; first | rfl | exact congrArg (Value.int .i64) (by omega) | exact congrArg (Value.int .i64) (by rw [IntKind.wrap_i64]; omega)) hJ.st (no_head rfl))
   rw [Bool.not_eq_true] at hgb
   have hgf := hgb
   rw [hgb] at kg
   rw [if_neg (not_wanted rfl rfl rfl kg (by decide))]
   exact hJ.nx hls hT rfl (by exact fun h => by rw [hgf] at h; cases h) hJ.st (no_head rfl)
  ·have kg := hJ.is hT (hdep ⟨12, .guard⟩ (by simp) rfl) rfl _ rfl _ rfl
   by_cases hgb : (e1 && e2) = true
   ·rw [hgb] at kg
    rw [if_pos (wanted_of rfl rfl rfl kg)]
    clear kg
    intro K hK
    have dd18 := hdep ⟨13, .data⟩ (by simp) rfl
    have q18 := dd18.2 _ rfl _ rfl
    have h18 := hJ.vals 13 dd18.1
    rw [hT] at h18
    have h18 : f 13 = .pointer (some ⟨B, 6, none⟩) := h18 hgb
    rw [h18] at q18
    clear h18 dd18
    have c0 := ((A0.out.ext hJ.st).cells.2.2.1)
    rw [Array.getD_eq_getD_getElem?] at q18
    clear hsz hdep hout hlat
    go_simp
    exact hK _ _ (hJ.nx hls hT rfl (by intro _; rfl) hJ.st (no_head rfl))
   rw [Bool.not_eq_true] at hgb
   have hgf := hgb
   rw [hgb] at kg
   rw [if_neg (not_wanted rfl rfl rfl kg (by decide))]
   exact hJ.nx hls hT rfl (by exact fun h => by rw [hgf] at h; cases h) hJ.st (no_head rfl)
  ·have kg := hJ.is hT (hdep ⟨12, .guard⟩ (by simp) rfl) rfl _ rfl _ rfl
   by_cases hgb : (e1 && e2) = true
   ·rw [hgb] at kg
    rw [if_pos (wanted_of rfl rfl rfl kg)]
    clear kg
    intro K hK
    have q3 := hout 3 (outB_spec (by kernel_rfl))
    rw [Array.getD_eq_getD_getElem?] at q3
    clear hsz hdep hout hlat
    go_simp
    exact hK _ _ (hJ.nx hls hT rfl (by intro _; first | rfl | exact congrArg (Value.int .i64) (by omega) | exact congrArg (Value.int .i64) (by rw [IntKind.wrap_i64]; omega)) hJ.st (no_head rfl))
   rw [Bool.not_eq_true] at hgb
   have hgf := hgb
   rw [hgb] at kg
   rw [if_neg (not_wanted rfl rfl rfl kg (by decide))]
   exact hJ.nx hls hT rfl (by exact fun h => by rw [hgf] at h; cases h) hJ.st (no_head rfl)
  ·have kg := hJ.is hT (hdep ⟨12, .guard⟩ (by simp) rfl) rfl _ rfl _ rfl
   by_cases hgb : (e1 && e2) = true
   ·rw [hgb] at kg
    rw [if_pos (wanted_of rfl rfl rfl kg)]
    clear kg
    intro K hK
    have dd20 := hdep ⟨15, .data⟩ (by simp) rfl
    have q20 := dd20.2 _ rfl _ rfl
    have h20 := hJ.vals 15 dd20.1
    rw [hT] at h20
    have h20 : f 15 = .pointer (some ⟨B + 1, 6, none⟩) := h20 hgb
    rw [h20] at q20
    clear h20 dd20
    have c0 := ((B0.out.ext hJ.st).cells.2.2.1)
    rw [Array.getD_eq_getD_getElem?] at q20
    clear hsz hdep hout hlat
    go_simp
    exact hK _ _ (hJ.nx hls hT rfl (by intro _; rfl) hJ.st (no_head rfl))
   rw [Bool.not_eq_true] at hgb
   have hgf := hgb
   rw [hgb] at kg
   rw [if_neg (not_wanted rfl rfl rfl kg (by decide))]
   exact hJ.nx hls hT rfl (by exact fun h => by rw [hgf] at h; cases h) hJ.st (no_head rfl)
  ·have kg := hJ.is hT (hdep ⟨12, .guard⟩ (by simp) rfl) rfl _ rfl _ rfl
   by_cases hgb : (e1 && e2) = true
   ·rw [hgb] at kg
    rw [if_pos (wanted_of rfl rfl rfl kg)]
    clear kg
    intro K hK
    have dd19 := hdep ⟨14, .data⟩ (by simp) rfl
    have q19 := dd19.2 _ rfl _ rfl
    have h19 := hJ.vals 14 dd19.1
    rw [hT] at h19
    have h19 : f 14 = .int .i64 pa.left := h19 hgb
    rw [h19] at q19
    clear h19 dd19
    have dd21 := hdep ⟨16, .data⟩ (by simp) rfl
    have q21 := dd21.2 _ rfl _ rfl
    have h21 := hJ.vals 16 dd21.1
    rw [hT] at h21
    have h21 : f 16 = .int .i64 pb.left := h21 hgb
    rw [h21] at q21
    clear h21 dd21
    exact wp_eql_i64 _ _ _ rfl (pa.left) (pb.left) q19 q21 (hK _ _ (hJ.nx hls hT rfl (by exact fun _ => congrArg Value.bool E3.out.symm) hJ.st (no_head rfl)))
   rw [Bool.not_eq_true] at hgb
   have hgf := hgb
   rw [hgb] at kg
   rw [if_neg (not_wanted rfl rfl rfl kg (by decide))]
   exact hJ.nx hls hT rfl (by exact fun h => by rw [hgf] at h; cases h) hJ.st (no_head rfl)
  ·have q17 := hJ.iq hT (hdep ⟨12, .data⟩ (by simp) rfl) rfl _ rfl _ rfl
   have dd22 := hdep ⟨17, .data⟩ (by simp) rfl
   have q22 := dd22.2 _ rfl _ rfl
   have h22 := hJ.vals 17 dd22.1
   rw [hT] at h22
   have h22 : (e1 && e2) = true → f 17 = .bool e3 := h22
   clear dd22
   clear hsz hdep hout hlat
   generalize hc : (e1 && e2) = c at *
   cases c
   ·go_simp
    exact hK _ _ (hJ.nx hls hT rfl rfl hJ.st (no_head rfl))
   rw [show f 17 = .bool e3 from h22 rfl, Array.getD_eq_getD_getElem?] at q22
   go_simp
   exact hK _ _ (hJ.nx hls hT rfl rfl hJ.st (no_head rfl))
  ·have q23 := hJ.is hT (hdep ⟨18, .data⟩ (by simp) rfl) rfl _ rfl _ rfl
   refine wp_mv _ rfl (hK _ _ ?_)
   rw [show a.eval (.tmp 23) = .bool ((e1 && e2) && e3) from q23]
   exact hJ.nx hls hT rfl rfl hJ.st (no_head rfl)
  ·have kg := hJ.is hT (hdep ⟨19, .guard⟩ (by simp) rfl) rfl _ rfl _ rfl
   by_cases hgb : ((e1 && e2) && e3) = true
   ·rw [hgb] at kg
    rw [if_pos (wanted_of rfl rfl rfl kg)]
    clear kg
    intro K hK
    have q2 := hout 2 (outB_spec (by kernel_rfl))
    rw [Array.getD_eq_getD_getElem?] at q2
    clear hsz hdep hout hlat
    go_simp
    exact hK _ _ (hJ.nx hls hT rfl (by intro _; first | rfl | exact congrArg (Value.int .i64) (by omega) | exact congrArg (Value.int .i64) (by rw [IntKind.wrap_i64]; omega)) hJ.st (no_head rfl))
   rw [Bool.not_eq_true] at hgb
   have hgf := hgb
   rw [hgb] at kg
   rw [if_neg (not_wanted rfl rfl rfl kg (by decide))]
   exact hJ.nx hls hT rfl (by exact fun h => by rw [hgf] at h; cases h) hJ.st (no_head rfl)
  ·have kg := hJ.is hT (hdep ⟨19, .guard⟩ (by simp) rfl) rfl _ rfl _ rfl
   by_cases hgb : ((e1 && e2) && e3) = true
   ·rw [hgb] at kg
    rw [if_pos (wanted_of rfl rfl rfl kg)]
    clear kg
    intro K hK
    have dd25 := hdep ⟨20, .data⟩ (by simp) rfl
    have q25 := dd25.2 _ rfl _ rfl
    have h25 := hJ.vals 20 dd25.1
    rw [hT] at h25
    have h25 : f 20 = .pointer (some ⟨B, 8, none⟩) := h25 hgb
    rw [h25] at q25
    clear h25 dd25
    have c0 := ((A0.out.ext hJ.st).cells.2.2.2.2.1)
    rw [Array.getD_eq_getD_getElem?] at q25
    clear hsz hdep hout hlat
    go_simp
    exact hK _ _ (hJ.nx hls hT rfl (by intro _; rfl) hJ.st (no_head rfl))
   rw [Bool.not_eq_true] at hgb
   have hgf := hgb
   rw [hgb] at kg
   rw [if_neg (not_wanted rfl rfl rfl kg (by decide))]
   exact hJ.nx hls hT rfl (by exact fun h => by rw [hgf] at h; cases h) hJ.st (no_head rfl)
  ·have kg := hJ.is hT (hdep ⟨19, .guard⟩ (by simp) rfl) rfl _ rfl _ rfl
   by_cases hgb : ((e1 && e2) && e3) = true
   ·rw [hgb] at kg
    rw [if_pos (wanted_of rfl rfl rfl kg)]
    clear kg
    intro K hK
    have q3 := hout 3 (outB_spec (by kernel_rfl))
    rw [Array.getD_eq_getD_getElem?] at q3
    clear hsz hdep hout hlat
    go_simp
    exact hK _ _ (hJ.nx hls hT rfl (by intro _; first | rfl | exact congrArg (Value.int .i64) (by omega) | exact congrArg (Value.int .i64) (by rw [IntKind.wrap_i64]; omega)) hJ.st (no_head rfl))
   rw [Bool.not_eq_true] at hgb
   have hgf := hgb
   rw [hgb] at kg
   rw [if_neg (not_wanted rfl rfl rfl kg (by decide))]
   exact hJ.nx hls hT rfl (by exact fun h => by rw [hgf] at h; cases h) hJ.st (no_head rfl)
  ·have kg := hJ.is hT (hdep ⟨19, .guard⟩ (by simp) rfl) rfl _ rfl _ rfl
   by_cases hgb : ((e1 && e2) && e3) = true
   ·rw [hgb] at kg
    rw [if_pos (wanted_of rfl rfl rfl kg)]
    clear kg
    intro K hK
    have dd27 := hdep ⟨22, .data⟩ (by simp) rfl
    have q27 := dd27.2 _ rfl _ rfl
    have h27 := hJ.vals 22 dd27.1
    rw [hT] at h27
    have h27 : f 22 = .pointer (some ⟨B + 1, 8, none⟩) := h27 hgb
    rw [h27] at q27
    clear h27 dd27
    have c0 := ((B0.out.ext hJ.st).cells.2.2.2.2.1)
    rw [Array.getD_eq_getD_getElem?] at q27
    clear hsz hdep hout hlat
    go_simp
    exact hK _ _ (hJ.nx hls hT rfl (by intro _; rfl) hJ.st (no_head rfl))
   rw [Bool.not_eq_true] at hgb
   have hgf := hgb
   rw [hgb] at kg
   rw [if_neg (not_wanted rfl rfl rfl kg (by decide))]
   exact hJ.nx hls hT rfl (by exact fun h => by rw [hgf] at h; cases h) hJ.st (no_head rfl)
  ·have kg := hJ.is hT (hdep ⟨19, .guard⟩ (by simp) rfl) rfl _ rfl _ rfl
   by_cases hgb : ((e1 && e2) && e3) = true
   ·rw [hgb] at kg
    rw [if_pos (wanted_of rfl rfl rfl kg)]
    clear kg
    intro K hK
    have dd26 := hdep ⟨21, .data⟩ (by simp) rfl
    have q26 := dd26.2 _ rfl _ rfl
    have h26 := hJ.vals 21 dd26.1
    rw [hT] at h26
    have h26 : f 21 = .int .i64 pa.client := h26 hgb
    rw [h26] at q26
    clear h26 dd26
    have dd28 := hdep ⟨23, .data⟩ (by simp) rfl
    have q28 := dd28.2 _ rfl _ rfl
    have h28 := hJ.vals 23 dd28.1
    rw [hT] at h28
    have h28 : f 23 = .int .i64 pb.client := h28 hgb
    rw [h28] at q28
    clear h28 dd28
    exact wp_eql_i64 _ _ _ rfl (pa.client) (pb.client) q26 q28 (hK _ _ (hJ.nx hls hT rfl (by exact fun _ => congrArg Value.bool E4.out.symm) hJ.st (no_head rfl)))
   rw [Bool.not_eq_true] at hgb
   have hgf := hgb
   rw [hgb] at kg
   rw [if_neg (not_wanted rfl rfl rfl kg (by decide))]
   exact hJ.nx hls hT rfl (by exact fun h => by rw [hgf] at h; cases h) hJ.st (no_head rfl)
  ·have q24 := hJ.iq hT (hdep ⟨19, .data⟩ (by simp) rfl) rfl _ rfl _ rfl
   have dd29 := hdep ⟨24, .data⟩ (by simp) rfl
   have q29 := dd29.2 _ rfl _ rfl
   have h29 := hJ.vals 24 dd29.1
   rw [hT] at h29
   have h29 : ((e1 && e2) && e3) = true → f 24 = .bool e4 := h29
   clear dd29
   clear hsz hdep hout hlat
   generalize hc : ((e1 && e2) && e3) = c at *
   cases c
   ·go_simp
    exact hK _ _ (hJ.nx hls hT rfl rfl hJ.st (no_head rfl))
   rw [show f 24 = .bool e4 from h29 rfl, Array.getD_eq_getD_getElem?] at q29
   go_simp
   exact hK _ _ (hJ.nx hls hT rfl rfl hJ.st (no_head rfl))
  ·have q30 := hJ.is hT (hdep ⟨25, .data⟩ (by simp) rfl) rfl _ rfl _ rfl
   refine wp_mv _ rfl (hK _ _ ?_)
   rw [show a.eval (.tmp 30) = .bool (((e1 && e2) && e3) && e4) from q30]
   exact hJ.nx hls hT rfl rfl hJ.st (no_head rfl)
  ·have kg := hJ.is hT (hdep ⟨26, .guard⟩ (by simp) rfl) rfl _ rfl _ rfl
   by_cases hgb : (((e1 && e2) && e3) && e4) = true
   ·rw [hgb] at kg
    rw [if_pos (wanted_of rfl rfl rfl kg)]
    clear kg
    intro K hK
    have q2 := hout 2 (outB_spec (by kernel_rfl))
    rw [Array.getD_eq_getD_getElem?] at q2
    clear hsz hdep hout hlat
    go_simp
    exact hK _ _ (hJ.nx hls hT rfl (by intro _; first | rfl | exact congrArg (Value.int .i64) (by omega) | exact congrArg (Value.int .i64) (by rw [IntKind.wrap_i64]; omega)) hJ.st (no_head rfl))
   rw [Bool.not_eq_true] at hgb
   have hgf := hgb
   rw [hgb] at kg
   rw [if_neg (not_wanted rfl rfl rfl kg (by decide))]
   exact hJ.nx hls hT rfl (by exact fun h => by rw [hgf] at h; cases h) hJ.st (no_head rfl)
  ·have kg := hJ.is hT (hdep ⟨26, .guard⟩ (by simp) rfl) rfl _ rfl _ rfl
   by_cases hgb : (((e1 && e2) && e3) && e4) = true
   ·rw [hgb] at kg
    rw [if_pos (wanted_of rfl rfl rfl kg)]
    clear kg
    intro K hK
    have dd32 := hdep ⟨27, .data⟩ (by simp) rfl
    have q32 := dd32.2 _ rfl _ rfl
    have h32 := hJ.vals 27 dd32.1
    rw [hT] at h32
    have h32 : f 27 = .pointer (some ⟨B, 9, none⟩) := h32 hgb
    rw [h32] at q32
    clear h32 dd32
    have c0 := ((A0.out.ext hJ.st).cells.2.2.2.2.2)
    rw [Array.getD_eq_getD_getElem?] at q32
    clear hsz hdep hout hlat
    go_simp
    exact hK _ _ (hJ.nx hls hT rfl (by intro _; rfl) hJ.st (no_head rfl))
   rw [Bool.not_eq_true] at hgb
   have hgf := hgb
   rw [hgb] at kg
   rw [if_neg (not_wanted rfl rfl rfl kg (by decide))]
   exact hJ.nx hls hT rfl (by exact fun h => by rw [hgf] at h; cases h) hJ.st (no_head rfl)
  ·have kg := hJ.is hT (hdep ⟨26, .guard⟩ (by simp) rfl) rfl _ rfl _ rfl
   by_cases hgb : (((e1 && e2) && e3) && e4) = true
   ·rw [hgb] at kg
    rw [if_pos (wanted_of rfl rfl rfl kg)]
    clear kg
    intro K hK
    have q3 := hout 3 (outB_spec (by kernel_rfl))
    rw [Array.getD_eq_getD_getElem?] at q3
    clear hsz hdep hout hlat
    go_simp
    exact hK _ _ (hJ.nx hls hT rfl (by intro _; first | rfl | exact congrArg (Value.int .i64) (by omega) | exact congrArg (Value.int .i64) (by rw [IntKind.wrap_i64]; omega)) hJ.st (no_head rfl))
   rw [Bool.not_eq_true] at hgb
   have hgf := hgb
   rw [hgb] at kg
   rw [if_neg (not_wanted rfl rfl rfl kg (by decide))]
   exact hJ.nx hls hT rfl (by exact fun h => by rw [hgf] at h; cases h) hJ.st (no_head rfl)
  ·have kg := hJ.is hT (hdep ⟨26, .guard⟩ (by simp) rfl) rfl _ rfl _ rfl
   by_cases hgb : (((e1 && e2) && e3) && e4) = true
   ·rw [hgb] at kg
    rw [if_pos (wanted_of rfl rfl rfl kg)]
    clear kg
    intro K hK
    have dd34 := hdep ⟨29, .data⟩ (by simp) rfl
    have q34 := dd34.2 _ rfl _ rfl
    have h34 := hJ.vals 29 dd34.1
    rw [hT] at h34
    have h34 : f 29 = .pointer (some ⟨B + 1, 9, none⟩) := h34 hgb
    rw [h34] at q34
    clear h34 dd34
    have c0 := ((B0.out.ext hJ.st).cells.2.2.2.2.2)
    rw [Array.getD_eq_getD_getElem?] at q34
    clear hsz hdep hout hlat
    go_simp
    exact hK _ _ (hJ.nx hls hT rfl (by intro _; rfl) hJ.st (no_head rfl))
   rw [Bool.not_eq_true] at hgb
   have hgf := hgb
   rw [hgb] at kg
   rw [if_neg (not_wanted rfl rfl rfl kg (by decide))]
   exact hJ.nx hls hT rfl (by exact fun h => by rw [hgf] at h; cases h) hJ.st (no_head rfl)
  ·have kg := hJ.is hT (hdep ⟨26, .guard⟩ (by simp) rfl) rfl _ rfl _ rfl
   by_cases hgb : (((e1 && e2) && e3) && e4) = true
   ·rw [hgb] at kg
    rw [if_pos (wanted_of rfl rfl rfl kg)]
    clear kg
    intro K hK
    have dd33 := hdep ⟨28, .data⟩ (by simp) rfl
    have q33 := dd33.2 _ rfl _ rfl
    have h33 := hJ.vals 28 dd33.1
    rw [hT] at h33
    have h33 : f 28 = .int .u64 pa.num := h33 hgb
    rw [h33] at q33
    clear h33 dd33
    have dd35 := hdep ⟨30, .data⟩ (by simp) rfl
    have q35 := dd35.2 _ rfl _ rfl
    have h35 := hJ.vals 30 dd35.1
    rw [hT] at h35
    have h35 : f 30 = .int .u64 pb.num := h35 hgb
    rw [h35] at q35
    clear h35 dd35
    exact wp_eql_u64 _ _ _ rfl (pa.num) (pb.num) q33 q35 (hK _ _ (hJ.nx hls hT rfl (by exact fun _ => congrArg Value.bool E5.out.symm) hJ.st (no_head rfl)))
   rw [Bool.not_eq_true] at hgb
   have hgf := hgb
   rw [hgb] at kg
   rw [if_neg (not_wanted rfl rfl rfl kg (by decide))]
   exact hJ.nx hls hT rfl (by exact fun h => by rw [hgf] at h; cases h) hJ.st (no_head rfl)
  ·have q31 := hJ.iq hT (hdep ⟨26, .data⟩ (by simp) rfl) rfl _ rfl _ rfl
   have dd36 := hdep ⟨31, .data⟩ (by simp) rfl
   have q36 := dd36.2 _ rfl _ rfl
   have h36 := hJ.vals 31 dd36.1
   rw [hT] at h36
   have h36 : (((e1 && e2) && e3) && e4) = true → f 31 = .bool e5 := h36
   clear dd36
   clear hsz hdep hout hlat
   generalize hc : (((e1 && e2) && e3) && e4) = c at *
   cases c
   ·go_simp
    exact hK _ _ (hJ.nx hls hT rfl rfl hJ.st (no_head rfl))
   rw [show f 31 = .bool e5 from h36 rfl, Array.getD_eq_getD_getElem?] at q36
   go_simp
   exact hK _ _ (hJ.nx hls hT rfl rfl hJ.st (no_head rfl))
  ·have q37 := hJ.is hT (hdep ⟨32, .data⟩ (by simp) rfl) rfl _ rfl _ rfl
   refine wp_mv _ rfl (hK _ _ ?_)
   rw [show a.eval (.tmp 37) = .bool ((((e1 && e2) && e3) && e4) && e5) from q37]
   exact hJ.nx hls hT rfl rfl hJ.st (no_head rfl)
  ·have kg := hJ.is hT (hdep ⟨33, .guard⟩ (by simp) rfl) rfl _ rfl _ rfl
   by_cases hgb : ((((e1 && e2) && e3) && e4) && e5) = true
   ·rw [hgb] at kg
    rw [if_pos (wanted_of rfl rfl rfl kg)]
    clear kg
    intro K hK
    have q2 := hout 2 (outB_spec (by kernel_rfl))
    rw [Array.getD_eq_getD_getElem?] at q2
    clear hsz hdep hout hlat
    go_simp
    exact hK _ _ (hJ.nx hls hT rfl (by intro _; first | rfl | exact congrArg (Value.int .i64) (by omega) | exact congrArg (Value.int .i64) (by rw [IntKind.wrap_i64]; omega)) hJ.st (no_head rfl))
   rw [Bool.not_eq_true] at hgb
   have hgf := hgb
   rw [hgb] at kg
   rw [if_neg (not_wanted rfl rfl rfl kg (by decide))]
   exact hJ.nx hls hT rfl (by exact fun h => by rw [hgf] at h; cases h) hJ.st (no_head rfl)
  ·have kg := hJ.is hT (hdep ⟨33, .guard⟩ (by simp) rfl) rfl _ rfl _ rfl
   by_cases hgb : ((((e1 && e2) && e3) && e4) && e5) = true
   ·rw [hgb] at kg
    rw [if_pos (wanted_of rfl rfl rfl kg)]
    clear kg
    intro K hK
    have dd39 := hdep ⟨34, .data⟩ (by simp) rfl
    have q39 := dd39.2 _ rfl _ rfl
    have h39 := hJ.vals 34 dd39.1
    rw [hT] at h39
    have h39 : f 34 = .pointer (some ⟨B, 7, none⟩) := h39 hgb
    rw [h39] at q39
    clear h39 dd39
    have c0 := ((A0.out.ext hJ.st).cells.2.2.2.1)
    unfold Pt.V at c0
    rw [Array.getD_eq_getD_getElem?] at q39
    clear hsz hdep hout hlat
    go_simp
    exact hK _ _ (hJ.nx hls hT rfl (by intro _; rfl) hJ.st (no_head rfl))
   rw [Bool.not_eq_true] at hgb
   have hgf := hgb
   rw [hgb] at kg
   rw [if_neg (not_wanted rfl rfl rfl kg (by decide))]
   exact hJ.nx hls hT rfl (by exact fun h => by rw [hgf] at h; cases h) hJ.st (no_head rfl)
  ·have kg := hJ.is hT (hdep ⟨33, .guard⟩ (by simp) rfl) rfl _ rfl _ rfl
   by_cases hgb : ((((e1 && e2) && e3) && e4) && e5) = true
   ·rw [hgb] at kg
    rw [if_pos (wanted_of rfl rfl rfl kg)]
    clear kg
    intro K hK
    have q3 := hout 3 (outB_spec (by kernel_rfl))
    rw [Array.getD_eq_getD_getElem?] at q3
    clear hsz hdep hout hlat
    go_simp
    exact hK _ _ (hJ.nx hls hT rfl (by intro _; first | rfl | exact congrArg (Value.int .i64) (by omega) | exact congrArg (Value.int .i64) (by rw [IntKind.wrap_i64]; omega)) hJ.st (no_head rfl))
   rw [Bool.not_eq_true] at hgb
   have hgf := hgb
   rw [hgb] at kg
   rw [if_neg (not_wanted rfl rfl rfl kg (by decide))]
   exact hJ.nx hls hT rfl (by exact fun h => by rw [hgf] at h; cases h) hJ.st (no_head rfl)
  ·have kg := hJ.is hT (hdep ⟨33, .guard⟩ (by simp) rfl) rfl _ rfl _ rfl
   by_cases hgb : ((((e1 && e2) && e3) && e4) && e5) = true
   ·rw [hgb] at kg
    rw [if_pos (wanted_of rfl rfl rfl kg)]
    clear kg
    intro K hK
    have dd41 := hdep ⟨36, .data⟩ (by simp) rfl
    have q41 := dd41.2 _ rfl _ rfl
    have h41 := hJ.vals 36 dd41.1
    rw [hT] at h41
    have h41 : f 36 = .pointer (some ⟨B + 1, 7, none⟩) := h41 hgb
    rw [h41] at q41
    clear h41 dd41
    have c0 := ((B0.out.ext hJ.st).cells.2.2.2.1)
    unfold Pt.V at c0
    rw [Array.getD_eq_getD_getElem?] at q41
    clear hsz hdep hout hlat
    go_simp
    exact hK _ _ (hJ.nx hls hT rfl (by intro _; rfl) hJ.st (no_head rfl))
   rw [Bool.not_eq_true] at hgb
   have hgf := hgb
   rw [hgb] at kg
   rw [if_neg (not_wanted rfl rfl rfl kg (by decide))]
   exact hJ.nx hls hT rfl (by exact fun h => by rw [hgf] at h; cases h) hJ.st (no_head rfl)
  ·have kg := hJ.is hT (hdep ⟨33, .guard⟩ (by simp) rfl) rfl _ rfl _ rfl
   by_cases hgb : ((((e1 && e2) && e3) && e4) && e5) = true
   rotate_left
   ·rw [Bool.not_eq_true] at hgb
    have hgf := hgb
    rw [hgb] at kg
    rw [if_neg (not_wanted rfl rfl rfl kg (by decide))]
    exact hJ.nx hls hT rfl (by exact fun h => by rw [hgf] at h; cases h) hJ.st (no_head rfl)
   rw [hgb] at kg
   rw [if_pos (wanted_of rfl rfl rfl kg)]
   clear kg
   intro K hK
   have dd40 := hdep ⟨35, .data⟩ (by simp) rfl
   have q40 := dd40.2 _ rfl _ rfl
   have h40 := hJ.vals 35 dd40.1
   rw [hT] at h40
   have h40 : f 35 = pa.sec.V := h40 hgb
   rw [h40] at q40
   clear h40 dd40
   have dd42 := hdep ⟨37, .data⟩ (by simp) rfl
   have q42 := dd42.2 _ rfl _ rfl
   have h42 := hJ.vals 37 dd42.1
   rw [hT] at h42
   have h42 : f 37 = pb.sec.V := h42 hgb
   rw [h42] at q42
   clear h42 dd42
   rw [Array.getD_eq_getD_getElem?] at q40 q42
   unfold Pt.V at q40 q42
   clear hsz hdep hout hlat
   go_simp
   refine (same_any pa.sec pb.sec w4 (AI.out.ext hJ.st).sec (BI.out.ext hJ.st).sec).mono ?_
   rintro e wq ⟨rfl, rfl⟩
   exact hK _ _ (hJ.nx hls hT rfl (by exact fun _ => congrArg Value.bool E6.out.symm) hJ.st (no_head rfl))
  ·have q38 := hJ.iq hT (hdep ⟨33, .data⟩ (by simp) rfl) rfl _ rfl _ rfl
   have dd43 := hdep ⟨38, .data⟩ (by simp) rfl
   have q43 := dd43.2 _ rfl _ rfl
   have h43 := hJ.vals 38 dd43.1
   rw [hT] at h43
   have h43 : ((((e1 && e2) && e3) && e4) && e5) = true → f 38 = .bool e6 := h43
   clear dd43
   clear hsz hdep hout hlat
   generalize hc : ((((e1 && e2) && e3) && e4) && e5) = c at *
   cases c
   ·go_simp
    exact hK _ _ (hJ.nx hls hT rfl rfl hJ.st (no_head rfl))
   rw [show f 38 = .bool e6 from h43 rfl, Array.getD_eq_getD_getElem?] at q43
   go_simp
   exact hK _ _ (hJ.nx hls hT rfl rfl hJ.st (no_head rfl))
  have q44 := hJ.iq hT (hdep ⟨39, .data⟩ (by simp) rfl) rfl _ rfl _ rfl
  clear hsz hdep hout hlat
  go_simp
  exact hK _ _ (hJ.nx hls hT rfl rfl hJ.st (no_head rfl))
 intro listed f w4 hall hJ
 have f40 : f 40 = .bool (((((e1 && e2) && e3) && e4) && e5) && e6) := by
  have h := hJ.vals 40 (hall 40 (by simp))
  rw [hT] at h; exact h
 have hst := hJ.st
 simp only [putAll, Act.put, List.setIfInBounds_toArray, List.set_cons_zero, List.set_cons_succ, Nat.zero_add, Nat.reduceAdd]
 have x4 : Ex w1 w4 := hst
 replace BW := Hi (Ex.trans BW.out x4)
 clear x4 hst hS0
 rw [f40]
 clear f40
 clear hJ hall hT
 go_wp2_with fail
 go_ret
 exact ⟨rfl, BW.out⟩
end Go.Proofs.Ytmjfnpmnhehnkaa
namespace Go.Proofs.Ytmjfnpmnhehnkaa
open Go.RowKit
end Go.Proofs.Ytmjfnpmnhehnkaa
namespace Go.Proofs.Ytmjfnpmnhehnkaa
open Go.RowKit
def keyL (id : List UInt8) : Int := Sm.shV id * 4294967296 + idn id
theorem idn_lt {id : List UInt8} (h : id.length = 4) : idn id < 4294967296 := by
 obtain ⟨a, b, c, d, rfl⟩ := len4 h
 have ha := a.toNat_lt; have hb := b.toNat_lt; have hc := c.toNat_lt; have hd := d.toNat_lt
 show a.toNat * 16777216 + b.toNat * 65536 + c.toNat * 256 + d.toNat < 4294967296
 omega
def SortL (zs : List Vt) : Prop := ∀ (i j : Nat) (x y : Vt), i < j → zs[i]? = some x → zs[j]? = some y → keyL x.id < keyL y.id
theorem SortL.ins {zs : List Vt} (h : SortL zs) {x : Vt} {k : Nat} (hk : k ≤ zs.length) (lo : ∀ (j : Nat) (y : Vt), j < k → zs[j]? = some y → keyL y.id < keyL x.id) (hi : ∀ (j : Nat) (y : Vt), k ≤ j → zs[j]? = some y → keyL x.id < keyL y.id) : SortL (zs.take k ++ x :: zs.drop k) := by
 have ht : (zs.take k).length = k := by rw [List.length_take]; omega
 have cases3 : ∀ (i : Nat) (y : Vt), (zs.take k ++ x :: zs.drop k)[i]? = some y → (i < k ∧ zs[i]? = some y) ∨ (i = k ∧ y = x) ∨ (k < i ∧ zs[i - 1]? = some y) := fun i y hy => by
  rcases Nat.lt_trichotomy i k with h1 | h1 | h1
  ·rw [List.getElem?_append_left (by omega), List.getElem?_take, if_pos h1] at hy
   exact Or.inl ⟨h1, hy⟩
  ·rw [List.getElem?_append_right (by omega), ht, show i - k = 0 by omega] at hy
   exact Or.inr (Or.inl ⟨h1, by simpa using hy.symm⟩)
  ·rw [List.getElem?_append_right (by omega), ht, show i - k = (i - k - 1) + 1 by omega, List.getElem?_cons_succ, List.getElem?_drop, show k + (i - k - 1) = i - 1 by omega] at hy
   exact Or.inr (Or.inr ⟨h1, hy⟩)
 intro i j a b hij ha hb
 rcases cases3 i a ha with ⟨h1, h2⟩ | ⟨h1, rfl⟩ | ⟨h1, h2⟩ <;> rcases cases3 j b hb with ⟨h3, h4⟩ | ⟨h3, rfl⟩ | ⟨h3, h4⟩
 ·exact h i j a b hij h2 h4
 ·exact lo i a h1 h2
 ·exact h i (j - 1) a b (by omega) h2 h4
 ·omega
 ·omega
 ·exact hi (j - 1) b (by omega) h4
 ·omega
 ·omega
 exact h (i - 1) (j - 1) a b (by omega) h2 h4
structure S8 (w5 : World) (zs : List Vt) (x : Vt) (k : Nat) (l : Array Bool) (f : Nat → Value) (w : World) : Prop where
 ex : Ex w5 w
 e0 : l.getD 0 false = true → l.getD 4 false = false → Emp w5.heap.size w 36 (f 0)
 e4 : l.getD 4 false = true → l.getD 13 false = false → w.ownsRow w5.heap.size 36 42 (f 4) k ((zs.take k).flatMap Vt.C)
 e12 : l.getD 12 false = true → l.getD 13 false = false → ∃ g, f 12 = .slice (some ⟨g, 0, none⟩) 1 1 ∧ Bk w g 36 x.C.toArray ∧ w5.heap.size ≤ g
 e13 : l.getD 13 false = true → l.getD 17 false = false → w.ownsRow w5.heap.size 36 42 (f 13) (k + 1) ((zs.take k ++ [x]).flatMap Vt.C)
 e17 : l.getD 17 false = true → w.ownsRow w5.heap.size 36 42 (f 17) (zs.length + 1) ((zs.take k ++ x :: zs.drop k).flatMap Vt.C)
 e18 : l.getD 18 false = true → f 18 = f 17
section
variable {w5 : World} {zs : List Vt} {x : Vt} {k : Nat} {l : Array Bool} {f : Nat → Value} {w w' : World} {v : Value}
theorem S8.plain (h : S8 w5 zs x k l f w) (i : Nat) (hi : i ≠ 0 ∧ i ≠ 4 ∧ i ≠ 12 ∧ i ≠ 13 ∧ i ≠ 17 ∧ i ≠ 18) : S8 w5 zs x k (l.setIfInBounds i true) (upd f i v) w := by
 refine ⟨h.ex, ?_, ?_, ?_, ?_, ?_, ?_⟩
 ·rw [gset hi.1 false, gset hi.2.1 false, upd_ne _ _ (Ne.symm hi.1)]; exact h.e0
 ·rw [gset hi.2.1 false, gset hi.2.2.2.1 false, upd_ne _ _ (Ne.symm hi.2.1)]; exact h.e4
 ·rw [gset hi.2.2.1 false, gset hi.2.2.2.1 false, upd_ne _ _ (Ne.symm hi.2.2.1)]; exact h.e12
 ·rw [gset hi.2.2.2.1 false, gset hi.2.2.2.2.1 false, upd_ne _ _ (Ne.symm hi.2.2.2.1)]; exact h.e13
 ·rw [gset hi.2.2.2.2.1 false, upd_ne _ _ (Ne.symm hi.2.2.2.2.1)]; exact h.e17
 rw [gset hi.2.2.2.2.2 false, upd_ne _ _ (Ne.symm hi.2.2.2.2.2), upd_ne _ _ (Ne.symm hi.2.2.2.2.1)]; exact h.e18
theorem S8.grow (h : S8 w5 zs x k l f w) (kx : Ex w w') : S8 w5 zs x k l f w' :=
 ⟨Ex.trans h.ex kx, fun a b => by obtain ⟨g, h1, h2, h3⟩ := h.e0 a b; exact ⟨g, h1, h2, h3.ext kx⟩, fun a b => kx.row (h.e4 a b), fun a b => by obtain ⟨g, h1, h2, h3⟩ := h.e12 a b; exact ⟨g, h1, h2.ext kx, h3⟩, fun a b => kx.row (h.e13 a b), fun a => kx.row (h.e17 a), h.e18⟩
theorem S8.s0 (h : S8 w5 zs x k l f w) (h4 : l.getD 4 false = false) : S8 w5 zs x k (l.setIfInBounds 0 true) (upd f 0 (.slice (some ⟨w.heap.size, 0, none⟩) 0 0)) (w.alloc (.cells #[] 36)) := by
 have h2 := h.grow (Ex.alloc w (.cells #[] 36))
 refine ⟨h2.ex, ?_, ?_, ?_, ?_, ?_, ?_⟩
 ·rw [upd_same]; exact fun _ _ => ⟨_, rfl, Below.size h.ex, Bk.new rfl _ _⟩
 ·rw [gset (by decide) false, h4]; intro e; cases e
 ·rw [gset (by decide) false, gset (by decide) false, upd_ne _ _ (by decide)]; exact h2.e12
 ·rw [gset (by decide) false, gset (by decide) false, upd_ne _ _ (by decide)]; exact h2.e13
 ·rw [gset (by decide) false, upd_ne _ _ (by decide)]; exact h2.e17
 rw [gset (by decide) false, upd_ne _ _ (by decide), upd_ne _ _ (by decide)]; exact h2.e18
theorem S8.s12 (h : S8 w5 zs x k l f w) (h13 : l.getD 13 false = false) : S8 w5 zs x k (l.setIfInBounds 12 true) (upd f 12 (.slice (some ⟨w.heap.size, 0, none⟩) 1 1)) (w.alloc (.cells x.C.toArray 36)) := by
 have h2 := h.grow (Ex.alloc w (.cells x.C.toArray 36))
 refine ⟨h2.ex, ?_, ?_, ?_, ?_, ?_, ?_⟩
 ·rw [gset (by decide) false, gset (by decide) false, upd_ne _ _ (by decide)]; exact h2.e0
 ·rw [gset (by decide) false, gset (by decide) false, upd_ne _ _ (by decide)]; exact h2.e4
 ·rw [upd_same]; exact fun _ _ => ⟨_, rfl, Bk.new rfl _ _, Below.size h.ex⟩
 ·rw [gset (by decide) false, h13]; intro e; cases e
 ·rw [gset (by decide) false, upd_ne _ _ (by decide)]; exact h2.e17
 rw [gset (by decide) false, upd_ne _ _ (by decide), upd_ne _ _ (by decide)]; exact h2.e18
end
end Go.Proofs.Ytmjfnpmnhehnkaa
