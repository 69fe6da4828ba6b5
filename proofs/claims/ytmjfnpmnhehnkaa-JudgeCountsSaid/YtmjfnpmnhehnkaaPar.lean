/- Je -/
import Derived.Test.YtmjfnpmnhehnkaaPaq
import Derived.Test.YtmjfnpmnhehnkaaPaq
namespace Go.Proofs.Ytmjfnpmnhehnkaa
open Go.RowKit
theorem Rc.eq_iff9 (a b : Rt) : decide (a.ct = b.ct) = (((((decide (a.why = b.why) && decide (a.id = b.id ∧ a.gen = b.gen)) && decide (a.left = b.left)) && decide (a.client = b.client)) && decide (a.num = b.num)) && decide (a.sec.l = b.sec.l)) := by
  have h : (a.ct = b.ct) ↔ (a.why = b.why ∧ a.id = b.id ∧ a.gen = b.gen ∧ a.left = b.left ∧ a.sec.l = b.sec.l ∧ a.client = b.client ∧ a.num = b.num) := Rc.eq_iff a.ct b.ct
  rw [Bool.eq_iff_iff, decide_eq_true_iff, h]
  simp only [decide_eq_true_eq, Bool.and_eq_true]
  constructor
  · rintro ⟨h1, h2, h3, h4, h5, h6, h7⟩; exact ⟨⟨⟨⟨⟨h1, h2, h3⟩, h4⟩, h6⟩, h7⟩, h5⟩
  rintro ⟨⟨⟨⟨⟨h1, h2, h3⟩, h4⟩, h6⟩, h7⟩, h5⟩; exact ⟨h1, h2, h3, h4, h5, h6, h7⟩
set_option maxHeartbeats 8000000 in
set_option maxRecDepth 100000 in
theorem jsame_any (pa pb : Rt) (w : World) (ha : RI w pa) (hb : RI w pb) : Calls Try.prog 117 #[pa.V, pb.V] w fun e w' => e = .returned (.bool (decide (pa.ct = pb.ct))) ∧ Ex w w' := by
  rw [Rc.eq_iff9]
  obtain ⟨cs, hcs⟩ : ∃ cs, cs = pa.C.toArray := ⟨_, rfl⟩
  obtain ⟨ds, hds⟩ : ∃ cs, cs = pb.C.toArray := ⟨_, rfl⟩
  have A0 : Hid (RB ((w.alloc (.cells cs 83)).alloc (.cells ds 83)) w.heap.size pa) := Lib.hid ⟨ha.ok, by rw [hcs]; exact (Bk.new rfl _ _).more _⟩
  have B0 : Hid (RB ((w.alloc (.cells cs 83)).alloc (.cells ds 83)) (w.heap.size + 1) pb) := Lib.hid ⟨hb.ok, by rw [hds]; exact Bk.new (by simp) _ _⟩
  have BW : Hid (Ex w ((w.alloc (.cells cs 83)).alloc (.cells ds 83))) := Lib.hid (Ex.trans (Ex.alloc w _) (Ex.alloc _ _))
  have AI := Lib.hid (ha.ext BW.out)
  have BI := Lib.hid (hb.ext BW.out)
  rw [show (Calls Try.prog 117 #[pa.V, pb.V] w) = (Calls Try.prog 117 #[.agg cs, .agg ds] w) by rw [hcs, hds]; rfl]
  clear hcs hds ha hb
  obtain ⟨e1, he⟩ : ∃ e, e = decide (pa.why = pb.why) := ⟨_, rfl⟩
  rw [← he]
  have E1 := Lib.hid he
  clear he
  obtain ⟨e2, he⟩ : ∃ e, e = decide (pa.id = pb.id ∧ pa.gen = pb.gen) := ⟨_, rfl⟩
  rw [← he]
  have E2 := Lib.hid he
  clear he
  obtain ⟨e3, he⟩ : ∃ e, e = decide (pa.left = pb.left) := ⟨_, rfl⟩
  rw [← he]
  have E3 := Lib.hid he
  clear he
  obtain ⟨e4, he⟩ : ∃ e, e = decide (pa.client = pb.client) := ⟨_, rfl⟩
  rw [← he]
  have E4 := Lib.hid he
  clear he
  obtain ⟨e5, he⟩ : ∃ e, e = decide (pa.num = pb.num) := ⟨_, rfl⟩
  rw [← he]
  have E5 := Lib.hid he
  clear he
  obtain ⟨e6, he⟩ : ∃ e, e = decide (pa.sec.l = pb.sec.l) := ⟨_, rfl⟩
  rw [← he]
  have E6 := Lib.hid he
  clear he
  go_enter Try.func117, Try.ntmps117
  go_wp2_with fail
  generalize hw1 : ((w.alloc (.cells cs 83)).alloc (.cells ds 83)) = w1 at *
  clear hw1
  obtain ⟨B, hB⟩ : ∃ B, B = w.heap.size := ⟨_, rfl⟩
  rw [← hB] at A0 B0 ⊢
  clear hB
  have hS0 : ∀ (listed : Array Bool) (f : Nat → Value), (∀ i, listed.getD i false = false) → Ex w1 w1.drew := fun _ _ _ => (Below.refl w1.heap.size w1).drew
  obtain ⟨T, hT⟩ : ∃ T : List (Value → Prop), T = [(fun zz => zz = .pointer (some ⟨B, 0, none⟩)), (fun zz => zz = .int .i64 pa.why), (fun zz => zz = .pointer (some ⟨B + 1, 0, none⟩)), (fun zz => zz = .int .i64 pb.why), (fun zz => zz = .bool e1), (fun zz => zz = .bool e1), (fun zz => e1 = true → zz = pa.V), (fun zz => e1 = true → zz = lifeV pa.id pa.gen), (fun zz => e1 = true → zz = pb.V), (fun zz => e1 = true → zz = lifeV pb.id pb.gen), (fun zz => e1 = true → zz = .bool e2), (fun zz => zz = .bool (e1 && e2)), (fun zz => zz = .bool (e1 && e2)), (fun zz => (e1 && e2) = true → zz = .pointer (some ⟨B, 6, none⟩)), (fun zz => (e1 && e2) = true → zz = .int .i64 pa.left), (fun zz => (e1 && e2) = true → zz = .pointer (some ⟨B + 1, 6, none⟩)), (fun zz => (e1 && e2) = true → zz = .int .i64 pb.left), (fun zz => (e1 && e2) = true → zz = .bool e3), (fun zz => zz = .bool ((e1 && e2) && e3)), (fun zz => zz = .bool ((e1 && e2) && e3)), (fun zz => ((e1 && e2) && e3) = true → zz = .pointer (some ⟨B, 8, none⟩)), (fun zz => ((e1 && e2) && e3) = true → zz = .int .i64 pa.client), (fun zz => ((e1 && e2) && e3) = true → zz = .pointer (some ⟨B + 1, 8, none⟩)), (fun zz => ((e1 && e2) && e3) = true → zz = .int .i64 pb.client), (fun zz => ((e1 && e2) && e3) = true → zz = .bool e4), (fun zz => zz = .bool (((e1 && e2) && e3) && e4)), (fun zz => zz = .bool (((e1 && e2) && e3) && e4)), (fun zz => (((e1 && e2) && e3) && e4) = true → zz = .pointer (some ⟨B, 9, none⟩)), (fun zz => (((e1 && e2) && e3) && e4) = true → zz = .int .u64 pa.num), (fun zz => (((e1 && e2) && e3) && e4) = true → zz = .pointer (some ⟨B + 1, 9, none⟩)), (fun zz => (((e1 && e2) && e3) && e4) = true → zz = .int .u64 pb.num), (fun zz => (((e1 && e2) && e3) && e4) = true → zz = .bool e5), (fun zz => zz = .bool ((((e1 && e2) && e3) && e4) && e5)), (fun zz => zz = .bool ((((e1 && e2) && e3) && e4) && e5)), (fun zz => ((((e1 && e2) && e3) && e4) && e5) = true → zz = .pointer (some ⟨B, 7, none⟩)), (fun zz => ((((e1 && e2) && e3) && e4) && e5) = true → zz = pa.sec.V), (fun zz => ((((e1 && e2) && e3) && e4) && e5) = true → zz = .pointer (some ⟨B + 1, 7, none⟩)), (fun zz => ((((e1 && e2) && e3) && e4) && e5) = true → zz = pb.sec.V), (fun zz => ((((e1 && e2) && e3) && e4) && e5) = true → zz = .bool e6), (fun zz => zz = .bool (((((e1 && e2) && e3) && e4) && e5) && e6)), (fun zz => zz = .bool (((((e1 && e2) && e3) && e4) && e5) && e6))] := ⟨_, rfl⟩
  refine wp_region_gen (JS T ([] : List (Nat × Nat)) (fun _ _ wq => Ex w1 wq)) (by kernel_rfl) (by kernel_rfl) (by kernel_rfl) (fitB_spec (by kernel_rfl)) (fun listed f h => JS.start listed f h (hS0 listed f h)) ?_ ?_
  · intro i o ho
    have hi : i < 41 := (Array.getElem?_eq_some_iff.1 ho).1
    have hi' : i = 0 ∨ i = 1 ∨ i = 2 ∨ i = 3 ∨ i = 4 ∨ i = 5 ∨ i = 6 ∨ i = 7 ∨ i = 8 ∨ i = 9 ∨ i = 10 ∨ i = 11 ∨ i = 12 ∨ i = 13 ∨ i = 14 ∨ i = 15 ∨ i = 16 ∨ i = 17 ∨ i = 18 ∨ i = 19 ∨ i = 20 ∨ i = 21 ∨ i = 22 ∨ i = 23 ∨ i = 24 ∨ i = 25 ∨ i = 26 ∨ i = 27 ∨ i = 28 ∨ i = 29 ∨ i = 30 ∨ i = 31 ∨ i = 32 ∨ i = 33 ∨ i = 34 ∨ i = 35 ∨ i = 36 ∨ i = 37 ∨ i = 38 ∨ i = 39 ∨ i = 40 := by omega
    clear hi
    rcases hi' with rfl | rfl | rfl | rfl | rfl | rfl | rfl | rfl | rfl | rfl | rfl | rfl | rfl | rfl | rfl | rfl | rfl | rfl | rfl | rfl | rfl | rfl | rfl | rfl | rfl | rfl | rfl | rfl | rfl | rfl | rfl | rfl | rfl | rfl | rfl | rfl | rfl | rfl | rfl | rfl | rfl
    all_goals (simp only [List.getElem?_toArray, List.getElem?_cons_zero, List.getElem?_cons_succ, Option.some.injEq] at ho; subst ho; intro listed f a w4 hJ hsz hls hun hdep hout hlat; first | (rw [if_pos (by rfl)]; intro K hK) | skip)
    · have q2 := hout 2 (outB_spec (by kernel_rfl))
      have hord : ∀ x ∈ ([] : List (Nat × Nat)), x.1 = 0 → listed.getD x.2 false = true := by simp
      rw [Array.getD_eq_getD_getElem?] at q2
      clear hsz hdep hout hlat
      go_simp
      exact hK _ _ (hJ.next (by rw [hls]; decide) (by rw [hT]; first | rfl | exact congrArg (Value.int .i64) (by omega) | exact congrArg (Value.int .i64) (by rw [IntKind.wrap_i64]; omega) | exact congrArg Value.bool (decide_eq_false (by omega)) | exact congrArg Value.bool (decide_eq_true (by omega)) | exact congrArg (Value.int .u64) (by omega)) hJ.st hord)
    · have q5 := hJ.is hT (hdep ⟨0, .data⟩ (by simp) rfl) rfl _ rfl _ rfl
      have hord : ∀ x ∈ ([] : List (Nat × Nat)), x.1 = 1 → listed.getD x.2 false = true := by simp
      have c0 := ((A0.out.ext hJ.st).cells.1)
      rw [Array.getD_eq_getD_getElem?] at q5
      clear hsz hdep hout hlat
      go_simp
      exact hK _ _ (hJ.next (by rw [hls]; decide) (by rw [hT]; rfl) hJ.st hord)
    · have q3 := hout 3 (outB_spec (by kernel_rfl))
      have hord : ∀ x ∈ ([] : List (Nat × Nat)), x.1 = 2 → listed.getD x.2 false = true := by simp
      rw [Array.getD_eq_getD_getElem?] at q3
      clear hsz hdep hout hlat
      go_simp
      exact hK _ _ (hJ.next (by rw [hls]; decide) (by rw [hT]; first | rfl | exact congrArg (Value.int .i64) (by omega) | exact congrArg (Value.int .i64) (by rw [IntKind.wrap_i64]; omega) | exact congrArg Value.bool (decide_eq_false (by omega)) | exact congrArg Value.bool (decide_eq_true (by omega)) | exact congrArg (Value.int .u64) (by omega)) hJ.st hord)
    · have q7 := hJ.is hT (hdep ⟨2, .data⟩ (by simp) rfl) rfl _ rfl _ rfl
      have hord : ∀ x ∈ ([] : List (Nat × Nat)), x.1 = 3 → listed.getD x.2 false = true := by simp
      have c0 := ((B0.out.ext hJ.st).cells.1)
      rw [Array.getD_eq_getD_getElem?] at q7
      clear hsz hdep hout hlat
      go_simp
      exact hK _ _ (hJ.next (by rw [hls]; decide) (by rw [hT]; rfl) hJ.st hord)
    · have q6 := hJ.is hT (hdep ⟨1, .data⟩ (by simp) rfl) rfl _ rfl _ rfl
      have q8 := hJ.is hT (hdep ⟨3, .data⟩ (by simp) rfl) rfl _ rfl _ rfl
      have hord : ∀ x ∈ ([] : List (Nat × Nat)), x.1 = 4 → listed.getD x.2 false = true := by simp
      exact wp_eql_err _ _ _ rfl (pa.why) (pb.why) q6 q8 (hK _ _ (hJ.next (by rw [hls]; decide) (by rw [hT]; exact congrArg Value.bool E1.out.symm) hJ.st hord))
    · have q9 := hJ.is hT (hdep ⟨4, .data⟩ (by simp) rfl) rfl _ rfl _ rfl
      have hord : ∀ x ∈ ([] : List (Nat × Nat)), x.1 = 5 → listed.getD x.2 false = true := by simp
      refine wp_mv _ rfl (hK _ _ ?_)
      rw [show a.eval (.tmp 9) = .bool e1 from q9]
      exact hJ.next (by rw [hls]; decide) (by rw [hT]; rfl) hJ.st hord
    · have ddg := hdep ⟨5, .guard⟩ (by simp) rfl
      have kg := ddg.2 _ rfl _ rfl
      have hg := hJ.vals 5 ddg.1
      rw [hT] at hg
      rw [show f 5 = .bool e1 from hg] at kg
      clear hg ddg
      have hord : ∀ x ∈ ([] : List (Nat × Nat)), x.1 = 6 → listed.getD x.2 false = true := by simp
      by_cases hgb : e1 = true
      · rw [hgb] at kg
        rw [if_pos (wanted_of rfl rfl rfl kg)]
        clear kg
        intro K hK
        have q2 := hout 2 (outB_spec (by kernel_rfl))
        exact ld_r _ (B) pa rfl q2 (A0.out.ext hJ.st) (hK _ _ (hJ.next (by rw [hls]; decide) (by rw [hT]; exact fun _ => rfl) hJ.st hord))
      rw [Bool.not_eq_true] at hgb
      have hgf := hgb
      rw [hgb] at kg
      rw [if_neg (not_wanted rfl rfl rfl kg (by decide))]
      exact hJ.next (by rw [hls]; decide) (by rw [hT]; exact fun h => by rw [hgf] at h; cases h) hJ.st hord
    · have ddg := hdep ⟨5, .guard⟩ (by simp) rfl
      have kg := ddg.2 _ rfl _ rfl
      have hg := hJ.vals 5 ddg.1
      rw [hT] at hg
      rw [show f 5 = .bool e1 from hg] at kg
      clear hg ddg
      have hord : ∀ x ∈ ([] : List (Nat × Nat)), x.1 = 7 → listed.getD x.2 false = true := by simp
      by_cases hgb : e1 = true
      · rw [hgb] at kg
        rw [if_pos (wanted_of rfl rfl rfl kg)]
        clear kg
        intro K hK
        have dd11 := hdep ⟨6, .data⟩ (by simp) rfl
        have q11 := dd11.2 _ rfl _ rfl
        have h11 := hJ.vals 6 dd11.1
        rw [hT] at h11
        have h11 : f 6 = pa.V := h11 hgb
        rw [h11] at q11
        clear h11 dd11
        rw [Array.getD_eq_getD_getElem?] at q11
        clear hsz hdep hout hlat
        go_simp
        refine (of_any pa w4 AI.out.ok).mono ?_
        rintro e wq ⟨rfl, xq⟩
        exact hK _ _ (hJ.next (by rw [hls]; decide) (by rw [hT]; exact fun _ => rfl) (Ex.trans hJ.st xq) hord)
      rw [Bool.not_eq_true] at hgb
      have hgf := hgb
      rw [hgb] at kg
      rw [if_neg (not_wanted rfl rfl rfl kg (by decide))]
      exact hJ.next (by rw [hls]; decide) (by rw [hT]; exact fun h => by rw [hgf] at h; cases h) hJ.st hord
    · have ddg := hdep ⟨5, .guard⟩ (by simp) rfl
      have kg := ddg.2 _ rfl _ rfl
      have hg := hJ.vals 5 ddg.1
      rw [hT] at hg
      rw [show f 5 = .bool e1 from hg] at kg
      clear hg ddg
      have hord : ∀ x ∈ ([] : List (Nat × Nat)), x.1 = 8 → listed.getD x.2 false = true := by simp
      by_cases hgb : e1 = true
      · rw [hgb] at kg
        rw [if_pos (wanted_of rfl rfl rfl kg)]
        clear kg
        intro K hK
        have q3 := hout 3 (outB_spec (by kernel_rfl))
        exact ld_r _ (B + 1) pb rfl q3 (B0.out.ext hJ.st) (hK _ _ (hJ.next (by rw [hls]; decide) (by rw [hT]; exact fun _ => rfl) hJ.st hord))
      rw [Bool.not_eq_true] at hgb
      have hgf := hgb
      rw [hgb] at kg
      rw [if_neg (not_wanted rfl rfl rfl kg (by decide))]
      exact hJ.next (by rw [hls]; decide) (by rw [hT]; exact fun h => by rw [hgf] at h; cases h) hJ.st hord
    · have ddg := hdep ⟨5, .guard⟩ (by simp) rfl
      have kg := ddg.2 _ rfl _ rfl
      have hg := hJ.vals 5 ddg.1
      rw [hT] at hg
      rw [show f 5 = .bool e1 from hg] at kg
      clear hg ddg
      have hord : ∀ x ∈ ([] : List (Nat × Nat)), x.1 = 9 → listed.getD x.2 false = true := by simp
      by_cases hgb : e1 = true
      · rw [hgb] at kg
        rw [if_pos (wanted_of rfl rfl rfl kg)]
        clear kg
        intro K hK
        have dd13 := hdep ⟨8, .data⟩ (by simp) rfl
        have q13 := dd13.2 _ rfl _ rfl
        have h13 := hJ.vals 8 dd13.1
        rw [hT] at h13
        have h13 : f 8 = pb.V := h13 hgb
        rw [h13] at q13
        clear h13 dd13
        rw [Array.getD_eq_getD_getElem?] at q13
        clear hsz hdep hout hlat
        go_simp
        refine (of_any pb w4 BI.out.ok).mono ?_
        rintro e wq ⟨rfl, xq⟩
        exact hK _ _ (hJ.next (by rw [hls]; decide) (by rw [hT]; exact fun _ => rfl) (Ex.trans hJ.st xq) hord)
      rw [Bool.not_eq_true] at hgb
      have hgf := hgb
      rw [hgb] at kg
      rw [if_neg (not_wanted rfl rfl rfl kg (by decide))]
      exact hJ.next (by rw [hls]; decide) (by rw [hT]; exact fun h => by rw [hgf] at h; cases h) hJ.st hord
    · have ddg := hdep ⟨5, .guard⟩ (by simp) rfl
      have kg := ddg.2 _ rfl _ rfl
      have hg := hJ.vals 5 ddg.1
      rw [hT] at hg
      rw [show f 5 = .bool e1 from hg] at kg
      clear hg ddg
      have hord : ∀ x ∈ ([] : List (Nat × Nat)), x.1 = 10 → listed.getD x.2 false = true := by simp
      by_cases hgb : e1 = true
      · rw [hgb] at kg
        rw [if_pos (wanted_of rfl rfl rfl kg)]
        clear kg
        intro K hK
        have dd12 := hdep ⟨7, .data⟩ (by simp) rfl
        have q12 := dd12.2 _ rfl _ rfl
        have h12 := hJ.vals 7 dd12.1
        rw [hT] at h12
        have h12 : f 7 = lifeV pa.id pa.gen := h12 hgb
        rw [h12] at q12
        clear h12 dd12
        have dd14 := hdep ⟨9, .data⟩ (by simp) rfl
        have q14 := dd14.2 _ rfl _ rfl
        have h14 := hJ.vals 9 dd14.1
        rw [hT] at h14
        have h14 : f 9 = lifeV pb.id pb.gen := h14 hgb
        rw [h14] at q14
        clear h14 dd14
        exact wp_eql_life _ _ _ rfl pa.id pb.id pa.gen pb.gen AI.out.ok.idN BI.out.ok.idN q12 q14 (hK _ _ (hJ.next (by rw [hls]; decide) (by rw [hT]; exact fun _ => congrArg Value.bool E2.out.symm) hJ.st hord))
      rw [Bool.not_eq_true] at hgb
      have hgf := hgb
      rw [hgb] at kg
      rw [if_neg (not_wanted rfl rfl rfl kg (by decide))]
      exact hJ.next (by rw [hls]; decide) (by rw [hT]; exact fun h => by rw [hgf] at h; cases h) hJ.st hord
    · have q10 := hJ.is hT (hdep ⟨5, .data⟩ (by simp) rfl) rfl _ rfl _ rfl
      have dd15 := hdep ⟨10, .data⟩ (by simp) rfl
      have q15 := dd15.2 _ rfl _ rfl
      have h15 := hJ.vals 10 dd15.1
      rw [hT] at h15
      have h15 : e1 = true → f 10 = .bool e2 := h15
      clear dd15
      have hord : ∀ x ∈ ([] : List (Nat × Nat)), x.1 = 11 → listed.getD x.2 false = true := by simp
      rw [Array.getD_eq_getD_getElem?] at q10
      clear hsz hdep hout hlat
      generalize hc : e1 = c at *
      cases c
      · go_simp
        exact hK _ _ (hJ.next (by rw [hls]; decide) (by rw [hT]; rfl) hJ.st hord)
      rw [show f 10 = .bool e2 from h15 rfl, Array.getD_eq_getD_getElem?] at q15
      go_simp
      exact hK _ _ (hJ.next (by rw [hls]; decide) (by rw [hT]; rfl) hJ.st hord)
    · have q16 := hJ.is hT (hdep ⟨11, .data⟩ (by simp) rfl) rfl _ rfl _ rfl
      have hord : ∀ x ∈ ([] : List (Nat × Nat)), x.1 = 12 → listed.getD x.2 false = true := by simp
      refine wp_mv _ rfl (hK _ _ ?_)
      rw [show a.eval (.tmp 16) = .bool (e1 && e2) from q16]
      exact hJ.next (by rw [hls]; decide) (by rw [hT]; rfl) hJ.st hord
    · have ddg := hdep ⟨12, .guard⟩ (by simp) rfl
      have kg := ddg.2 _ rfl _ rfl
      have hg := hJ.vals 12 ddg.1
      rw [hT] at hg
      rw [show f 12 = .bool (e1 && e2) from hg] at kg
      clear hg ddg
      have hord : ∀ x ∈ ([] : List (Nat × Nat)), x.1 = 13 → listed.getD x.2 false = true := by simp
      by_cases hgb : (e1 && e2) = true
      · rw [hgb] at kg
        rw [if_pos (wanted_of rfl rfl rfl kg)]
        clear kg
        intro K hK
        have q2 := hout 2 (outB_spec (by kernel_rfl))
        rw [Array.getD_eq_getD_getElem?] at q2
        clear hsz hdep hout hlat
        go_simp
        exact hK _ _ (hJ.next (by rw [hls]; decide) (by rw [hT]; intro _; first | rfl | exact congrArg (Value.int .i64) (by omega) | exact congrArg (Value.int .i64) (by rw [IntKind.wrap_i64]; omega)) hJ.st hord)
      rw [Bool.not_eq_true] at hgb
      have hgf := hgb
      rw [hgb] at kg
      rw [if_neg (not_wanted rfl rfl rfl kg (by decide))]
      exact hJ.next (by rw [hls]; decide) (by rw [hT]; exact fun h => by rw [hgf] at h; cases h) hJ.st hord
    · have ddg := hdep ⟨12, .guard⟩ (by simp) rfl
      have kg := ddg.2 _ rfl _ rfl
      have hg := hJ.vals 12 ddg.1
      rw [hT] at hg
      rw [show f 12 = .bool (e1 && e2) from hg] at kg
      clear hg ddg
      have hord : ∀ x ∈ ([] : List (Nat × Nat)), x.1 = 14 → listed.getD x.2 false = true := by simp
      by_cases hgb : (e1 && e2) = true
      · rw [hgb] at kg
        rw [if_pos (wanted_of rfl rfl rfl kg)]
        clear kg
        intro K hK
        have dd18 := hdep ⟨13, .data⟩ (by simp) rfl
        have q18 := dd18.2 _ rfl _ rfl
        have h18 := hJ.vals 13 dd18.1
        rw [hT] at h18
        have h18 : f 13 = .pointer (some ⟨B, 6, none⟩) := h18 hgb
        rw [h18] at q18
        clear h18 dd18
        have c0 := ((A0.out.ext hJ.st).cells.2.2.1)
        rw [Array.getD_eq_getD_getElem?] at q18
        clear hsz hdep hout hlat
        go_simp
        exact hK _ _ (hJ.next (by rw [hls]; decide) (by rw [hT]; intro _; rfl) hJ.st hord)
      rw [Bool.not_eq_true] at hgb
      have hgf := hgb
      rw [hgb] at kg
      rw [if_neg (not_wanted rfl rfl rfl kg (by decide))]
      exact hJ.next (by rw [hls]; decide) (by rw [hT]; exact fun h => by rw [hgf] at h; cases h) hJ.st hord
    · have ddg := hdep ⟨12, .guard⟩ (by simp) rfl
      have kg := ddg.2 _ rfl _ rfl
      have hg := hJ.vals 12 ddg.1
      rw [hT] at hg
      rw [show f 12 = .bool (e1 && e2) from hg] at kg
      clear hg ddg
      have hord : ∀ x ∈ ([] : List (Nat × Nat)), x.1 = 15 → listed.getD x.2 false = true := by simp
      by_cases hgb : (e1 && e2) = true
      · rw [hgb] at kg
        rw [if_pos (wanted_of rfl rfl rfl kg)]
        clear kg
        intro K hK
        have q3 := hout 3 (outB_spec (by kernel_rfl))
        rw [Array.getD_eq_getD_getElem?] at q3
        clear hsz hdep hout hlat
        go_simp
        exact hK _ _ (hJ.next (by rw [hls]; decide) (by rw [hT]; intro _; first | rfl | exact congrArg (Value.int .i64) (by omega) | exact congrArg (Value.int .i64) (by rw [IntKind.wrap_i64]; omega)) hJ.st hord)
      rw [Bool.not_eq_true] at hgb
      have hgf := hgb
      rw [hgb] at kg
      rw [if_neg (not_wanted rfl rfl rfl kg (by decide))]
      exact hJ.next (by rw [hls]; decide) (by rw [hT]; exact fun h => by rw [hgf] at h; cases h) hJ.st hord
    · have ddg := hdep ⟨12, .guard⟩ (by simp) rfl
      have kg := ddg.2 _ rfl _ rfl
      have hg := hJ.vals 12 ddg.1
      rw [hT] at hg
      rw [show f 12 = .bool (e1 && e2) from hg] at kg
      clear hg ddg
      have hord : ∀ x ∈ ([] : List (Nat × Nat)), x.1 = 16 → listed.getD x.2 false = true := by simp
      by_cases hgb : (e1 && e2) = true
      · rw [hgb] at kg
        rw [if_pos (wanted_of rfl rfl rfl kg)]
        clear kg
        intro K hK
        have dd20 := hdep ⟨15, .data⟩ (by simp) rfl
        have q20 := dd20.2 _ rfl _ rfl
        have h20 := hJ.vals 15 dd20.1
        rw [hT] at h20
        have h20 : f 15 = .pointer (some ⟨B + 1, 6, none⟩) := h20 hgb
        rw [h20] at q20
        clear h20 dd20
        have c0 := ((B0.out.ext hJ.st).cells.2.2.1)
        rw [Array.getD_eq_getD_getElem?] at q20
        clear hsz hdep hout hlat
        go_simp
        exact hK _ _ (hJ.next (by rw [hls]; decide) (by rw [hT]; intro _; rfl) hJ.st hord)
      rw [Bool.not_eq_true] at hgb
      have hgf := hgb
      rw [hgb] at kg
      rw [if_neg (not_wanted rfl rfl rfl kg (by decide))]
      exact hJ.next (by rw [hls]; decide) (by rw [hT]; exact fun h => by rw [hgf] at h; cases h) hJ.st hord
    · have ddg := hdep ⟨12, .guard⟩ (by simp) rfl
      have kg := ddg.2 _ rfl _ rfl
      have hg := hJ.vals 12 ddg.1
      rw [hT] at hg
      rw [show f 12 = .bool (e1 && e2) from hg] at kg
      clear hg ddg
      have hord : ∀ x ∈ ([] : List (Nat × Nat)), x.1 = 17 → listed.getD x.2 false = true := by simp
      by_cases hgb : (e1 && e2) = true
      · rw [hgb] at kg
        rw [if_pos (wanted_of rfl rfl rfl kg)]
        clear kg
        intro K hK
        have dd19 := hdep ⟨14, .data⟩ (by simp) rfl
        have q19 := dd19.2 _ rfl _ rfl
        have h19 := hJ.vals 14 dd19.1
        rw [hT] at h19
        have h19 : f 14 = .int .i64 pa.left := h19 hgb
        rw [h19] at q19
        clear h19 dd19
        have dd21 := hdep ⟨16, .data⟩ (by simp) rfl
        have q21 := dd21.2 _ rfl _ rfl
        have h21 := hJ.vals 16 dd21.1
        rw [hT] at h21
        have h21 : f 16 = .int .i64 pb.left := h21 hgb
        rw [h21] at q21
        clear h21 dd21
        exact wp_eql_i64 _ _ _ rfl (pa.left) (pb.left) q19 q21 (hK _ _ (hJ.next (by rw [hls]; decide) (by rw [hT]; exact fun _ => congrArg Value.bool E3.out.symm) hJ.st hord))
      rw [Bool.not_eq_true] at hgb
      have hgf := hgb
      rw [hgb] at kg
      rw [if_neg (not_wanted rfl rfl rfl kg (by decide))]
      exact hJ.next (by rw [hls]; decide) (by rw [hT]; exact fun h => by rw [hgf] at h; cases h) hJ.st hord
    · have q17 := hJ.is hT (hdep ⟨12, .data⟩ (by simp) rfl) rfl _ rfl _ rfl
      have dd22 := hdep ⟨17, .data⟩ (by simp) rfl
      have q22 := dd22.2 _ rfl _ rfl
      have h22 := hJ.vals 17 dd22.1
      rw [hT] at h22
      have h22 : (e1 && e2) = true → f 17 = .bool e3 := h22
      clear dd22
      have hord : ∀ x ∈ ([] : List (Nat × Nat)), x.1 = 18 → listed.getD x.2 false = true := by simp
      rw [Array.getD_eq_getD_getElem?] at q17
      clear hsz hdep hout hlat
      generalize hc : (e1 && e2) = c at *
      cases c
      · go_simp
        exact hK _ _ (hJ.next (by rw [hls]; decide) (by rw [hT]; rfl) hJ.st hord)
      rw [show f 17 = .bool e3 from h22 rfl, Array.getD_eq_getD_getElem?] at q22
      go_simp
      exact hK _ _ (hJ.next (by rw [hls]; decide) (by rw [hT]; rfl) hJ.st hord)
    · have q23 := hJ.is hT (hdep ⟨18, .data⟩ (by simp) rfl) rfl _ rfl _ rfl
      have hord : ∀ x ∈ ([] : List (Nat × Nat)), x.1 = 19 → listed.getD x.2 false = true := by simp
      refine wp_mv _ rfl (hK _ _ ?_)
      rw [show a.eval (.tmp 23) = .bool ((e1 && e2) && e3) from q23]
      exact hJ.next (by rw [hls]; decide) (by rw [hT]; rfl) hJ.st hord
    · have ddg := hdep ⟨19, .guard⟩ (by simp) rfl
      have kg := ddg.2 _ rfl _ rfl
      have hg := hJ.vals 19 ddg.1
      rw [hT] at hg
      rw [show f 19 = .bool ((e1 && e2) && e3) from hg] at kg
      clear hg ddg
      have hord : ∀ x ∈ ([] : List (Nat × Nat)), x.1 = 20 → listed.getD x.2 false = true := by simp
      by_cases hgb : ((e1 && e2) && e3) = true
      · rw [hgb] at kg
        rw [if_pos (wanted_of rfl rfl rfl kg)]
        clear kg
        intro K hK
        have q2 := hout 2 (outB_spec (by kernel_rfl))
        rw [Array.getD_eq_getD_getElem?] at q2
        clear hsz hdep hout hlat
        go_simp
        exact hK _ _ (hJ.next (by rw [hls]; decide) (by rw [hT]; intro _; first | rfl | exact congrArg (Value.int .i64) (by omega) | exact congrArg (Value.int .i64) (by rw [IntKind.wrap_i64]; omega)) hJ.st hord)
      rw [Bool.not_eq_true] at hgb
      have hgf := hgb
      rw [hgb] at kg
      rw [if_neg (not_wanted rfl rfl rfl kg (by decide))]
      exact hJ.next (by rw [hls]; decide) (by rw [hT]; exact fun h => by rw [hgf] at h; cases h) hJ.st hord
    · have ddg := hdep ⟨19, .guard⟩ (by simp) rfl
      have kg := ddg.2 _ rfl _ rfl
      have hg := hJ.vals 19 ddg.1
      rw [hT] at hg
      rw [show f 19 = .bool ((e1 && e2) && e3) from hg] at kg
      clear hg ddg
      have hord : ∀ x ∈ ([] : List (Nat × Nat)), x.1 = 21 → listed.getD x.2 false = true := by simp
      by_cases hgb : ((e1 && e2) && e3) = true
      · rw [hgb] at kg
        rw [if_pos (wanted_of rfl rfl rfl kg)]
        clear kg
        intro K hK
        have dd25 := hdep ⟨20, .data⟩ (by simp) rfl
        have q25 := dd25.2 _ rfl _ rfl
        have h25 := hJ.vals 20 dd25.1
        rw [hT] at h25
        have h25 : f 20 = .pointer (some ⟨B, 8, none⟩) := h25 hgb
        rw [h25] at q25
        clear h25 dd25
        have c0 := ((A0.out.ext hJ.st).cells.2.2.2.2.1)
        rw [Array.getD_eq_getD_getElem?] at q25
        clear hsz hdep hout hlat
        go_simp
        exact hK _ _ (hJ.next (by rw [hls]; decide) (by rw [hT]; intro _; rfl) hJ.st hord)
      rw [Bool.not_eq_true] at hgb
      have hgf := hgb
      rw [hgb] at kg
      rw [if_neg (not_wanted rfl rfl rfl kg (by decide))]
      exact hJ.next (by rw [hls]; decide) (by rw [hT]; exact fun h => by rw [hgf] at h; cases h) hJ.st hord
    · have ddg := hdep ⟨19, .guard⟩ (by simp) rfl
      have kg := ddg.2 _ rfl _ rfl
      have hg := hJ.vals 19 ddg.1
      rw [hT] at hg
      rw [show f 19 = .bool ((e1 && e2) && e3) from hg] at kg
      clear hg ddg
      have hord : ∀ x ∈ ([] : List (Nat × Nat)), x.1 = 22 → listed.getD x.2 false = true := by simp
      by_cases hgb : ((e1 && e2) && e3) = true
      · rw [hgb] at kg
        rw [if_pos (wanted_of rfl rfl rfl kg)]
        clear kg
        intro K hK
        have q3 := hout 3 (outB_spec (by kernel_rfl))
        rw [Array.getD_eq_getD_getElem?] at q3
        clear hsz hdep hout hlat
        go_simp
        exact hK _ _ (hJ.next (by rw [hls]; decide) (by rw [hT]; intro _; first | rfl | exact congrArg (Value.int .i64) (by omega) | exact congrArg (Value.int .i64) (by rw [IntKind.wrap_i64]; omega)) hJ.st hord)
      rw [Bool.not_eq_true] at hgb
      have hgf := hgb
      rw [hgb] at kg
      rw [if_neg (not_wanted rfl rfl rfl kg (by decide))]
      exact hJ.next (by rw [hls]; decide) (by rw [hT]; exact fun h => by rw [hgf] at h; cases h) hJ.st hord
    · have ddg := hdep ⟨19, .guard⟩ (by simp) rfl
      have kg := ddg.2 _ rfl _ rfl
      have hg := hJ.vals 19 ddg.1
      rw [hT] at hg
      rw [show f 19 = .bool ((e1 && e2) && e3) from hg] at kg
      clear hg ddg
      have hord : ∀ x ∈ ([] : List (Nat × Nat)), x.1 = 23 → listed.getD x.2 false = true := by simp
      by_cases hgb : ((e1 && e2) && e3) = true
      · rw [hgb] at kg
        rw [if_pos (wanted_of rfl rfl rfl kg)]
        clear kg
        intro K hK
        have dd27 := hdep ⟨22, .data⟩ (by simp) rfl
        have q27 := dd27.2 _ rfl _ rfl
        have h27 := hJ.vals 22 dd27.1
        rw [hT] at h27
        have h27 : f 22 = .pointer (some ⟨B + 1, 8, none⟩) := h27 hgb
        rw [h27] at q27
        clear h27 dd27
        have c0 := ((B0.out.ext hJ.st).cells.2.2.2.2.1)
        rw [Array.getD_eq_getD_getElem?] at q27
        clear hsz hdep hout hlat
        go_simp
        exact hK _ _ (hJ.next (by rw [hls]; decide) (by rw [hT]; intro _; rfl) hJ.st hord)
      rw [Bool.not_eq_true] at hgb
      have hgf := hgb
      rw [hgb] at kg
      rw [if_neg (not_wanted rfl rfl rfl kg (by decide))]
      exact hJ.next (by rw [hls]; decide) (by rw [hT]; exact fun h => by rw [hgf] at h; cases h) hJ.st hord
    · have ddg := hdep ⟨19, .guard⟩ (by simp) rfl
      have kg := ddg.2 _ rfl _ rfl
      have hg := hJ.vals 19 ddg.1
      rw [hT] at hg
      rw [show f 19 = .bool ((e1 && e2) && e3) from hg] at kg
      clear hg ddg
      have hord : ∀ x ∈ ([] : List (Nat × Nat)), x.1 = 24 → listed.getD x.2 false = true := by simp
      by_cases hgb : ((e1 && e2) && e3) = true
      · rw [hgb] at kg
        rw [if_pos (wanted_of rfl rfl rfl kg)]
        clear kg
        intro K hK
        have dd26 := hdep ⟨21, .data⟩ (by simp) rfl
        have q26 := dd26.2 _ rfl _ rfl
        have h26 := hJ.vals 21 dd26.1
        rw [hT] at h26
        have h26 : f 21 = .int .i64 pa.client := h26 hgb
        rw [h26] at q26
        clear h26 dd26
        have dd28 := hdep ⟨23, .data⟩ (by simp) rfl
        have q28 := dd28.2 _ rfl _ rfl
        have h28 := hJ.vals 23 dd28.1
        rw [hT] at h28
        have h28 : f 23 = .int .i64 pb.client := h28 hgb
        rw [h28] at q28
        clear h28 dd28
        exact wp_eql_i64 _ _ _ rfl (pa.client) (pb.client) q26 q28 (hK _ _ (hJ.next (by rw [hls]; decide) (by rw [hT]; exact fun _ => congrArg Value.bool E4.out.symm) hJ.st hord))
      rw [Bool.not_eq_true] at hgb
      have hgf := hgb
      rw [hgb] at kg
      rw [if_neg (not_wanted rfl rfl rfl kg (by decide))]
      exact hJ.next (by rw [hls]; decide) (by rw [hT]; exact fun h => by rw [hgf] at h; cases h) hJ.st hord
    · have q24 := hJ.is hT (hdep ⟨19, .data⟩ (by simp) rfl) rfl _ rfl _ rfl
      have dd29 := hdep ⟨24, .data⟩ (by simp) rfl
      have q29 := dd29.2 _ rfl _ rfl
      have h29 := hJ.vals 24 dd29.1
      rw [hT] at h29
      have h29 : ((e1 && e2) && e3) = true → f 24 = .bool e4 := h29
      clear dd29
      have hord : ∀ x ∈ ([] : List (Nat × Nat)), x.1 = 25 → listed.getD x.2 false = true := by simp
      rw [Array.getD_eq_getD_getElem?] at q24
      clear hsz hdep hout hlat
      generalize hc : ((e1 && e2) && e3) = c at *
      cases c
      · go_simp
        exact hK _ _ (hJ.next (by rw [hls]; decide) (by rw [hT]; rfl) hJ.st hord)
      rw [show f 24 = .bool e4 from h29 rfl, Array.getD_eq_getD_getElem?] at q29
      go_simp
      exact hK _ _ (hJ.next (by rw [hls]; decide) (by rw [hT]; rfl) hJ.st hord)
    · have q30 := hJ.is hT (hdep ⟨25, .data⟩ (by simp) rfl) rfl _ rfl _ rfl
      have hord : ∀ x ∈ ([] : List (Nat × Nat)), x.1 = 26 → listed.getD x.2 false = true := by simp
      refine wp_mv _ rfl (hK _ _ ?_)
      rw [show a.eval (.tmp 30) = .bool (((e1 && e2) && e3) && e4) from q30]
      exact hJ.next (by rw [hls]; decide) (by rw [hT]; rfl) hJ.st hord
    · have ddg := hdep ⟨26, .guard⟩ (by simp) rfl
      have kg := ddg.2 _ rfl _ rfl
      have hg := hJ.vals 26 ddg.1
      rw [hT] at hg
      rw [show f 26 = .bool (((e1 && e2) && e3) && e4) from hg] at kg
      clear hg ddg
      have hord : ∀ x ∈ ([] : List (Nat × Nat)), x.1 = 27 → listed.getD x.2 false = true := by simp
      by_cases hgb : (((e1 && e2) && e3) && e4) = true
      · rw [hgb] at kg
        rw [if_pos (wanted_of rfl rfl rfl kg)]
        clear kg
        intro K hK
        have q2 := hout 2 (outB_spec (by kernel_rfl))
        rw [Array.getD_eq_getD_getElem?] at q2
        clear hsz hdep hout hlat
        go_simp
        exact hK _ _ (hJ.next (by rw [hls]; decide) (by rw [hT]; intro _; first | rfl | exact congrArg (Value.int .i64) (by omega) | exact congrArg (Value.int .i64) (by rw [IntKind.wrap_i64]; omega)) hJ.st hord)
      rw [Bool.not_eq_true] at hgb
      have hgf := hgb
      rw [hgb] at kg
      rw [if_neg (not_wanted rfl rfl rfl kg (by decide))]
      exact hJ.next (by rw [hls]; decide) (by rw [hT]; exact fun h => by rw [hgf] at h; cases h) hJ.st hord
    · have ddg := hdep ⟨26, .guard⟩ (by simp) rfl
      have kg := ddg.2 _ rfl _ rfl
      have hg := hJ.vals 26 ddg.1
      rw [hT] at hg
      rw [show f 26 = .bool (((e1 && e2) && e3) && e4) from hg] at kg
      clear hg ddg
      have hord : ∀ x ∈ ([] : List (Nat × Nat)), x.1 = 28 → listed.getD x.2 false = true := by simp
      by_cases hgb : (((e1 && e2) && e3) && e4) = true
      · rw [hgb] at kg
        rw [if_pos (wanted_of rfl rfl rfl kg)]
        clear kg
        intro K hK
        have dd32 := hdep ⟨27, .data⟩ (by simp) rfl
        have q32 := dd32.2 _ rfl _ rfl
        have h32 := hJ.vals 27 dd32.1
        rw [hT] at h32
        have h32 : f 27 = .pointer (some ⟨B, 9, none⟩) := h32 hgb
        rw [h32] at q32
        clear h32 dd32
        have c0 := ((A0.out.ext hJ.st).cells.2.2.2.2.2)
        rw [Array.getD_eq_getD_getElem?] at q32
        clear hsz hdep hout hlat
        go_simp
        exact hK _ _ (hJ.next (by rw [hls]; decide) (by rw [hT]; intro _; rfl) hJ.st hord)
      rw [Bool.not_eq_true] at hgb
      have hgf := hgb
      rw [hgb] at kg
      rw [if_neg (not_wanted rfl rfl rfl kg (by decide))]
      exact hJ.next (by rw [hls]; decide) (by rw [hT]; exact fun h => by rw [hgf] at h; cases h) hJ.st hord
    · have ddg := hdep ⟨26, .guard⟩ (by simp) rfl
      have kg := ddg.2 _ rfl _ rfl
      have hg := hJ.vals 26 ddg.1
      rw [hT] at hg
      rw [show f 26 = .bool (((e1 && e2) && e3) && e4) from hg] at kg
      clear hg ddg
      have hord : ∀ x ∈ ([] : List (Nat × Nat)), x.1 = 29 → listed.getD x.2 false = true := by simp
      by_cases hgb : (((e1 && e2) && e3) && e4) = true
      · rw [hgb] at kg
        rw [if_pos (wanted_of rfl rfl rfl kg)]
        clear kg
        intro K hK
        have q3 := hout 3 (outB_spec (by kernel_rfl))
        rw [Array.getD_eq_getD_getElem?] at q3
        clear hsz hdep hout hlat
        go_simp
        exact hK _ _ (hJ.next (by rw [hls]; decide) (by rw [hT]; intro _; first | rfl | exact congrArg (Value.int .i64) (by omega) | exact congrArg (Value.int .i64) (by rw [IntKind.wrap_i64]; omega)) hJ.st hord)
      rw [Bool.not_eq_true] at hgb
      have hgf := hgb
      rw [hgb] at kg
      rw [if_neg (not_wanted rfl rfl rfl kg (by decide))]
      exact hJ.next (by rw [hls]; decide) (by rw [hT]; exact fun h => by rw [hgf] at h; cases h) hJ.st hord
    · have ddg := hdep ⟨26, .guard⟩ (by simp) rfl
      have kg := ddg.2 _ rfl _ rfl
      have hg := hJ.vals 26 ddg.1
      rw [hT] at hg
      rw [show f 26 = .bool (((e1 && e2) && e3) && e4) from hg] at kg
      clear hg ddg
      have hord : ∀ x ∈ ([] : List (Nat × Nat)), x.1 = 30 → listed.getD x.2 false = true := by simp
      by_cases hgb : (((e1 && e2) && e3) && e4) = true
      · rw [hgb] at kg
        rw [if_pos (wanted_of rfl rfl rfl kg)]
        clear kg
        intro K hK
        have dd34 := hdep ⟨29, .data⟩ (by simp) rfl
        have q34 := dd34.2 _ rfl _ rfl
        have h34 := hJ.vals 29 dd34.1
        rw [hT] at h34
        have h34 : f 29 = .pointer (some ⟨B + 1, 9, none⟩) := h34 hgb
        rw [h34] at q34
        clear h34 dd34
        have c0 := ((B0.out.ext hJ.st).cells.2.2.2.2.2)
        rw [Array.getD_eq_getD_getElem?] at q34
        clear hsz hdep hout hlat
        go_simp
        exact hK _ _ (hJ.next (by rw [hls]; decide) (by rw [hT]; intro _; rfl) hJ.st hord)
      rw [Bool.not_eq_true] at hgb
      have hgf := hgb
      rw [hgb] at kg
      rw [if_neg (not_wanted rfl rfl rfl kg (by decide))]
      exact hJ.next (by rw [hls]; decide) (by rw [hT]; exact fun h => by rw [hgf] at h; cases h) hJ.st hord
    · have ddg := hdep ⟨26, .guard⟩ (by simp) rfl
      have kg := ddg.2 _ rfl _ rfl
      have hg := hJ.vals 26 ddg.1
      rw [hT] at hg
      rw [show f 26 = .bool (((e1 && e2) && e3) && e4) from hg] at kg
      clear hg ddg
      have hord : ∀ x ∈ ([] : List (Nat × Nat)), x.1 = 31 → listed.getD x.2 false = true := by simp
      by_cases hgb : (((e1 && e2) && e3) && e4) = true
      · rw [hgb] at kg
        rw [if_pos (wanted_of rfl rfl rfl kg)]
        clear kg
        intro K hK
        have dd33 := hdep ⟨28, .data⟩ (by simp) rfl
        have q33 := dd33.2 _ rfl _ rfl
        have h33 := hJ.vals 28 dd33.1
        rw [hT] at h33
        have h33 : f 28 = .int .u64 pa.num := h33 hgb
        rw [h33] at q33
        clear h33 dd33
        have dd35 := hdep ⟨30, .data⟩ (by simp) rfl
        have q35 := dd35.2 _ rfl _ rfl
        have h35 := hJ.vals 30 dd35.1
        rw [hT] at h35
        have h35 : f 30 = .int .u64 pb.num := h35 hgb
        rw [h35] at q35
        clear h35 dd35
        exact wp_eql_u64 _ _ _ rfl (pa.num) (pb.num) q33 q35 (hK _ _ (hJ.next (by rw [hls]; decide) (by rw [hT]; exact fun _ => congrArg Value.bool E5.out.symm) hJ.st hord))
      rw [Bool.not_eq_true] at hgb
      have hgf := hgb
      rw [hgb] at kg
      rw [if_neg (not_wanted rfl rfl rfl kg (by decide))]
      exact hJ.next (by rw [hls]; decide) (by rw [hT]; exact fun h => by rw [hgf] at h; cases h) hJ.st hord
    · have q31 := hJ.is hT (hdep ⟨26, .data⟩ (by simp) rfl) rfl _ rfl _ rfl
      have dd36 := hdep ⟨31, .data⟩ (by simp) rfl
      have q36 := dd36.2 _ rfl _ rfl
      have h36 := hJ.vals 31 dd36.1
      rw [hT] at h36
      have h36 : (((e1 && e2) && e3) && e4) = true → f 31 = .bool e5 := h36
      clear dd36
      have hord : ∀ x ∈ ([] : List (Nat × Nat)), x.1 = 32 → listed.getD x.2 false = true := by simp
      rw [Array.getD_eq_getD_getElem?] at q31
      clear hsz hdep hout hlat
      generalize hc : (((e1 && e2) && e3) && e4) = c at *
      cases c
      · go_simp
        exact hK _ _ (hJ.next (by rw [hls]; decide) (by rw [hT]; rfl) hJ.st hord)
      rw [show f 31 = .bool e5 from h36 rfl, Array.getD_eq_getD_getElem?] at q36
      go_simp
      exact hK _ _ (hJ.next (by rw [hls]; decide) (by rw [hT]; rfl) hJ.st hord)
    · have q37 := hJ.is hT (hdep ⟨32, .data⟩ (by simp) rfl) rfl _ rfl _ rfl
      have hord : ∀ x ∈ ([] : List (Nat × Nat)), x.1 = 33 → listed.getD x.2 false = true := by simp
      refine wp_mv _ rfl (hK _ _ ?_)
      rw [show a.eval (.tmp 37) = .bool ((((e1 && e2) && e3) && e4) && e5) from q37]
      exact hJ.next (by rw [hls]; decide) (by rw [hT]; rfl) hJ.st hord
    · have ddg := hdep ⟨33, .guard⟩ (by simp) rfl
      have kg := ddg.2 _ rfl _ rfl
      have hg := hJ.vals 33 ddg.1
      rw [hT] at hg
      rw [show f 33 = .bool ((((e1 && e2) && e3) && e4) && e5) from hg] at kg
      clear hg ddg
      have hord : ∀ x ∈ ([] : List (Nat × Nat)), x.1 = 34 → listed.getD x.2 false = true := by simp
      by_cases hgb : ((((e1 && e2) && e3) && e4) && e5) = true
      · rw [hgb] at kg
        rw [if_pos (wanted_of rfl rfl rfl kg)]
        clear kg
        intro K hK
        have q2 := hout 2 (outB_spec (by kernel_rfl))
        rw [Array.getD_eq_getD_getElem?] at q2
        clear hsz hdep hout hlat
        go_simp
        exact hK _ _ (hJ.next (by rw [hls]; decide) (by rw [hT]; intro _; first | rfl | exact congrArg (Value.int .i64) (by omega) | exact congrArg (Value.int .i64) (by rw [IntKind.wrap_i64]; omega)) hJ.st hord)
      rw [Bool.not_eq_true] at hgb
      have hgf := hgb
      rw [hgb] at kg
      rw [if_neg (not_wanted rfl rfl rfl kg (by decide))]
      exact hJ.next (by rw [hls]; decide) (by rw [hT]; exact fun h => by rw [hgf] at h; cases h) hJ.st hord
    · have ddg := hdep ⟨33, .guard⟩ (by simp) rfl
      have kg := ddg.2 _ rfl _ rfl
      have hg := hJ.vals 33 ddg.1
      rw [hT] at hg
      rw [show f 33 = .bool ((((e1 && e2) && e3) && e4) && e5) from hg] at kg
      clear hg ddg
      have hord : ∀ x ∈ ([] : List (Nat × Nat)), x.1 = 35 → listed.getD x.2 false = true := by simp
      by_cases hgb : ((((e1 && e2) && e3) && e4) && e5) = true
      · rw [hgb] at kg
        rw [if_pos (wanted_of rfl rfl rfl kg)]
        clear kg
        intro K hK
        have dd39 := hdep ⟨34, .data⟩ (by simp) rfl
        have q39 := dd39.2 _ rfl _ rfl
        have h39 := hJ.vals 34 dd39.1
        rw [hT] at h39
        have h39 : f 34 = .pointer (some ⟨B, 7, none⟩) := h39 hgb
        rw [h39] at q39
        clear h39 dd39
        have c0 := ((A0.out.ext hJ.st).cells.2.2.2.1)
        unfold Pt.V at c0
        rw [Array.getD_eq_getD_getElem?] at q39
        clear hsz hdep hout hlat
        go_simp
        exact hK _ _ (hJ.next (by rw [hls]; decide) (by rw [hT]; intro _; rfl) hJ.st hord)
      rw [Bool.not_eq_true] at hgb
      have hgf := hgb
      rw [hgb] at kg
      rw [if_neg (not_wanted rfl rfl rfl kg (by decide))]
      exact hJ.next (by rw [hls]; decide) (by rw [hT]; exact fun h => by rw [hgf] at h; cases h) hJ.st hord
    · have ddg := hdep ⟨33, .guard⟩ (by simp) rfl
      have kg := ddg.2 _ rfl _ rfl
      have hg := hJ.vals 33 ddg.1
      rw [hT] at hg
      rw [show f 33 = .bool ((((e1 && e2) && e3) && e4) && e5) from hg] at kg
      clear hg ddg
      have hord : ∀ x ∈ ([] : List (Nat × Nat)), x.1 = 36 → listed.getD x.2 false = true := by simp
      by_cases hgb : ((((e1 && e2) && e3) && e4) && e5) = true
      · rw [hgb] at kg
        rw [if_pos (wanted_of rfl rfl rfl kg)]
        clear kg
        intro K hK
        have q3 := hout 3 (outB_spec (by kernel_rfl))
        rw [Array.getD_eq_getD_getElem?] at q3
        clear hsz hdep hout hlat
        go_simp
        exact hK _ _ (hJ.next (by rw [hls]; decide) (by rw [hT]; intro _; first | rfl | exact congrArg (Value.int .i64) (by omega) | exact congrArg (Value.int .i64) (by rw [IntKind.wrap_i64]; omega)) hJ.st hord)
      rw [Bool.not_eq_true] at hgb
      have hgf := hgb
      rw [hgb] at kg
      rw [if_neg (not_wanted rfl rfl rfl kg (by decide))]
      exact hJ.next (by rw [hls]; decide) (by rw [hT]; exact fun h => by rw [hgf] at h; cases h) hJ.st hord
    · have ddg := hdep ⟨33, .guard⟩ (by simp) rfl
      have kg := ddg.2 _ rfl _ rfl
      have hg := hJ.vals 33 ddg.1
      rw [hT] at hg
      rw [show f 33 = .bool ((((e1 && e2) && e3) && e4) && e5) from hg] at kg
      clear hg ddg
      have hord : ∀ x ∈ ([] : List (Nat × Nat)), x.1 = 37 → listed.getD x.2 false = true := by simp
      by_cases hgb : ((((e1 && e2) && e3) && e4) && e5) = true
      · rw [hgb] at kg
        rw [if_pos (wanted_of rfl rfl rfl kg)]
        clear kg
        intro K hK
        have dd41 := hdep ⟨36, .data⟩ (by simp) rfl
        have q41 := dd41.2 _ rfl _ rfl
        have h41 := hJ.vals 36 dd41.1
        rw [hT] at h41
        have h41 : f 36 = .pointer (some ⟨B + 1, 7, none⟩) := h41 hgb
        rw [h41] at q41
        clear h41 dd41
        have c0 := ((B0.out.ext hJ.st).cells.2.2.2.1)
        unfold Pt.V at c0
        rw [Array.getD_eq_getD_getElem?] at q41
        clear hsz hdep hout hlat
        go_simp
        exact hK _ _ (hJ.next (by rw [hls]; decide) (by rw [hT]; intro _; rfl) hJ.st hord)
      rw [Bool.not_eq_true] at hgb
      have hgf := hgb
      rw [hgb] at kg
      rw [if_neg (not_wanted rfl rfl rfl kg (by decide))]
      exact hJ.next (by rw [hls]; decide) (by rw [hT]; exact fun h => by rw [hgf] at h; cases h) hJ.st hord
    · have ddg := hdep ⟨33, .guard⟩ (by simp) rfl
      have kg := ddg.2 _ rfl _ rfl
      have hg := hJ.vals 33 ddg.1
      rw [hT] at hg
      rw [show f 33 = .bool ((((e1 && e2) && e3) && e4) && e5) from hg] at kg
      clear hg ddg
      have hord : ∀ x ∈ ([] : List (Nat × Nat)), x.1 = 38 → listed.getD x.2 false = true := by simp
      by_cases hgb : ((((e1 && e2) && e3) && e4) && e5) = true
      · rw [hgb] at kg
        rw [if_pos (wanted_of rfl rfl rfl kg)]
        clear kg
        intro K hK
        have dd40 := hdep ⟨35, .data⟩ (by simp) rfl
        have q40 := dd40.2 _ rfl _ rfl
        have h40 := hJ.vals 35 dd40.1
        rw [hT] at h40
        have h40 : f 35 = pa.sec.V := h40 hgb
        rw [h40] at q40
        clear h40 dd40
        have dd42 := hdep ⟨37, .data⟩ (by simp) rfl
        have q42 := dd42.2 _ rfl _ rfl
        have h42 := hJ.vals 37 dd42.1
        rw [hT] at h42
        have h42 : f 37 = pb.sec.V := h42 hgb
        rw [h42] at q42
        clear h42 dd42
        rw [Array.getD_eq_getD_getElem?] at q40
        rw [Array.getD_eq_getD_getElem?] at q42
        unfold Pt.V at q40 q42
        clear hsz hdep hout hlat
        go_simp
        refine (same_any pa.sec pb.sec w4 (AI.out.ext hJ.st).sec (BI.out.ext hJ.st).sec).mono ?_
        rintro e wq ⟨rfl, rfl⟩
        exact hK _ _ (hJ.next (by rw [hls]; decide) (by rw [hT]; exact fun _ => congrArg Value.bool E6.out.symm) hJ.st hord)
      rw [Bool.not_eq_true] at hgb
      have hgf := hgb
      rw [hgb] at kg
      rw [if_neg (not_wanted rfl rfl rfl kg (by decide))]
      exact hJ.next (by rw [hls]; decide) (by rw [hT]; exact fun h => by rw [hgf] at h; cases h) hJ.st hord
    · have q38 := hJ.is hT (hdep ⟨33, .data⟩ (by simp) rfl) rfl _ rfl _ rfl
      have dd43 := hdep ⟨38, .data⟩ (by simp) rfl
      have q43 := dd43.2 _ rfl _ rfl
      have h43 := hJ.vals 38 dd43.1
      rw [hT] at h43
      have h43 : ((((e1 && e2) && e3) && e4) && e5) = true → f 38 = .bool e6 := h43
      clear dd43
      have hord : ∀ x ∈ ([] : List (Nat × Nat)), x.1 = 39 → listed.getD x.2 false = true := by simp
      rw [Array.getD_eq_getD_getElem?] at q38
      clear hsz hdep hout hlat
      generalize hc : ((((e1 && e2) && e3) && e4) && e5) = c at *
      cases c
      · go_simp
        exact hK _ _ (hJ.next (by rw [hls]; decide) (by rw [hT]; rfl) hJ.st hord)
      rw [show f 38 = .bool e6 from h43 rfl, Array.getD_eq_getD_getElem?] at q43
      go_simp
      exact hK _ _ (hJ.next (by rw [hls]; decide) (by rw [hT]; rfl) hJ.st hord)
    have q44 := hJ.is hT (hdep ⟨39, .data⟩ (by simp) rfl) rfl _ rfl _ rfl
    have hord : ∀ x ∈ ([] : List (Nat × Nat)), x.1 = 40 → listed.getD x.2 false = true := by simp
    rw [Array.getD_eq_getD_getElem?] at q44
    clear hsz hdep hout hlat
    go_simp
    exact hK _ _ (hJ.next (by rw [hls]; decide) (by rw [hT]; first | rfl | exact congrArg (Value.int .i64) (by omega) | exact congrArg (Value.int .i64) (by rw [IntKind.wrap_i64]; omega) | exact congrArg Value.bool (decide_eq_false (by omega)) | exact congrArg Value.bool (decide_eq_true (by omega)) | exact congrArg (Value.int .u64) (by omega)) hJ.st hord)
  intro listed f w4 hall hJ
  have f40 : f 40 = .bool (((((e1 && e2) && e3) && e4) && e5) && e6) := by
    have h := hJ.vals 40 (hall 40 (by simp))
    rw [hT] at h; exact h
  have hst := hJ.st
  simp only [putAll, Act.put, List.setIfInBounds_toArray, List.set_cons_zero, List.set_cons_succ, Nat.zero_add, Nat.reduceAdd]
  have x4 : Ex w1 w4 := hst
  replace BW := Lib.hid (Ex.trans BW.out x4)
  clear x4 hst hS0
  rw [f40]
  clear f40
  clear hJ hall hT
  generalize f 0 = y0
  generalize f 1 = y1
  generalize f 2 = y2
  generalize f 3 = y3
  generalize f 4 = y4
  generalize f 5 = y5
  generalize f 6 = y6
  generalize f 7 = y7
  generalize f 8 = y8
  generalize f 9 = y9
  generalize f 10 = y10
  generalize f 11 = y11
  generalize f 12 = y12
  generalize f 13 = y13
  generalize f 14 = y14
  generalize f 15 = y15
  generalize f 16 = y16
  generalize f 17 = y17
  generalize f 18 = y18
  generalize f 19 = y19
  generalize f 20 = y20
  generalize f 21 = y21
  generalize f 22 = y22
  generalize f 23 = y23
  generalize f 24 = y24
  generalize f 25 = y25
  generalize f 26 = y26
  generalize f 27 = y27
  generalize f 28 = y28
  generalize f 29 = y29
  generalize f 30 = y30
  generalize f 31 = y31
  generalize f 32 = y32
  generalize f 33 = y33
  generalize f 34 = y34
  generalize f 35 = y35
  generalize f 36 = y36
  generalize f 37 = y37
  generalize f 38 = y38
  generalize f 39 = y39
  go_wp2_with fail
  go_ret
  exact ⟨rfl, BW.out⟩
end Go.Proofs.Ytmjfnpmnhehnkaa
