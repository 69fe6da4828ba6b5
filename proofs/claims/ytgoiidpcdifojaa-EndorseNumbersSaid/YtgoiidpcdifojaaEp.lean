/- walks: the law EndorseNumbers -/
import Derived.Test.YtgoiidpcdifojaaEk
import Derived.Test.YtgoiidpcdifojaaEo
namespace Go.Proofs.Ytgoiidpcdifojaa
open Go.RowKit
open Sm (digV DB by8 sumL numL zero16 by8_int)
def K4 : List UInt8 := [4, 0, 0, 0, 0, 0, 0, 0, 0, 0, 0, 0, 0, 0, 0, 0]
theorem xor4 (b : Nat) (hb : b < 32) : bits .xor .i64 (b : Int) 4 = ((b ^^^ 4 : Nat) : Int) ∧ b ^^^ 4 < 256 := by
  have h : ((List.range 32).all fun b => decide (bits .xor .i64 ((b : Nat) : Int) 4 = ((b ^^^ 4 : Nat) : Int)) && decide (b ^^^ 4 < 256)) = true := by decide +kernel
  have h1 := List.all_eq_true.1 h b (List.mem_range.2 hb)
  simpa using h1
set_option maxHeartbeats 8000000 in
set_option maxRecDepth 100000 in
theorem numbers15_law (w : World) : Calls Try.prog 10 #[] w fun e w' => e = .returned (.bool true) ∧ Below w.heap.size w w' := by
  have KN := Lib.hid known15_any
  have BW := Lib.hid (show Ex w w from Ex.refl _)
  go_enter Try.func10, Try.ntmps10
  go_wp2_with (first | (with_reducible refine Sm.stop_load59 ?_) | (with_reducible refine Sm.stop_store59 ?_) | (with_reducible refine stop_load45 ?_) | (with_reducible refine stop_store45 ?_))
  (with_reducible refine ⟨?_⟩); (with_reducible refine at_any ?_ ?_); (focus go_simp); refine fun K0 hK => Sm.wp_st _ _ w.heap.size K4 rfl rfl rfl rfl (Sm.Bk.new rfl _ _) rfl (fun w1 hd ho => hK _ _ ?_)
  have xs : Ex w w1 := ho.below _ (Nat.le_refl _) _ ((Below.refl _ _).alloc (Nat.le_refl _) _)
  replace BW := Lib.hid (Ex.trans BW.out xs)
  obtain ⟨g1, hg1⟩ : ∃ g, g = w.heap.size := ⟨_, rfl⟩
  rw [← hg1] at hd ⊢
  have D0 := Lib.hid hd
  clear hK ho hd xs hg1
  go_wp2_with (first | (with_reducible refine Sm.stop_load59 ?_) | (with_reducible refine Sm.stop_store59 ?_) | (with_reducible refine stop_load45 ?_) | (with_reducible refine stop_store45 ?_))
  go_loopw [2] (fun i wr => ∃ (b : Nat), 1 ≤ b ∧ b ≤ 32 ∧ i = .int .i64 b ∧ Hid (DB wr g1 K4) ∧ Hid (Ex w wr)) (fun i _ => 32 - (intOf i).toNat)
  case atStart => exact ⟨1, by omega, by omega, rfl, D0, BW⟩
  case round =>
    clear D0 BW
    obtain ⟨b, hb1, hb2, rfl, D0, BW⟩ := hrel
    by_cases hlt : b < 32
    · have q0 : (0 : Int) ≤ (b : Int) := by omega
      have q1 : (b : Int) < 32 := by omega
      obtain ⟨hx4, hx5⟩ := xor4 b hlt
      have L1 := Lib.hid (fun W => (show Calls Try.prog 37 #[.int .u64 3, .int .i64 (b : Int)] W (ListPost 3 (mem8 b 8) W) from list15_any 3 b (by omega) W))
      have L2 := Lib.hid (fun W => (show Calls Try.prog 37 #[.int .u64 4, .int .i64 ((b ^^^ 4 : Nat) : Int)] W (ListPost 4 (mem8 (b ^^^ 4) 8) W) from list15_any 4 (b ^^^ 4) hx5 W))
      have HLT := Lib.hid hlt
      have HB1 := Lib.hid hb1
      clear hx5 hb2
      go_wp2_with (first | (with_reducible refine Sm.stop_load59 ?_) | (with_reducible refine Sm.stop_store59 ?_) | (with_reducible refine stop_load45 ?_) | (with_reducible refine stop_store45 ?_))
      refine (L1.out _).mono ?_
      rintro e w2 ⟨pl, rfl, hll, PL, xr⟩
      replace D0 := Lib.hid (DB.ext D0.out xr)
      replace BW := Lib.hid (Ex.trans BW.out xr)
      have HLL := Lib.hid hll
      clear xr L1 hll
      go_wp2_with (first | (with_reducible refine Sm.stop_load59 ?_) | (with_reducible refine Sm.stop_store59 ?_) | (with_reducible refine stop_load45 ?_) | (with_reducible refine stop_store45 ?_))
      refine (L2.out _).mono ?_
      rintro e w3 ⟨pn, rfl, hln, PN, xr⟩
      replace PL := Lib.hid PL
      replace D0 := Lib.hid (DB.ext D0.out xr)
      replace BW := Lib.hid (Ex.trans BW.out xr)
      replace PL := Lib.hid (Pt.In.ext PL.out xr)
      have HLN := Lib.hid hln
      clear xr L2 hln hx4
      go_wp2_with (first | (with_reducible refine Sm.stop_load59 ?_) | (with_reducible refine Sm.stop_store59 ?_) | (with_reducible refine stop_load45 ?_) | (with_reducible refine stop_store45 ?_))
      have Z3 : Hid (LB ((w3.alloc (.cells #[.int .u64 0, .slice none 0 0] 45)).alloc (.cells #[.int .u64 0, .slice none 0 0] 45)) w3.heap.size 0 nilP) := Lib.hid ((Bk.new rfl _ _).more _)
      have Z4 : Hid (LB ((w3.alloc (.cells #[.int .u64 0, .slice none 0 0] 45)).alloc (.cells #[.int .u64 0, .slice none 0 0] 45)) (w3.heap.size + 1) 0 nilP) := Lib.hid (Bk.new (by simp) _ _)
      have xa : Ex w3 ((w3.alloc (.cells #[.int .u64 0, .slice none 0 0] 45)).alloc (.cells #[.int .u64 0, .slice none 0 0] 45)) := ((Below.refl _ _).alloc (Nat.le_refl _) _).alloc (by simp) _
      replace PN := Lib.hid PN
      have BW0 := BW
      have D0x := D0
      replace D0 := Lib.hid (DB.ext D0.out xa)
      replace BW := Lib.hid (Ex.trans BW.out xa)
      replace PL := Lib.hid (Pt.In.ext PL.out xa)
      replace PN := Lib.hid (Pt.In.ext PN.out xa)
      obtain ⟨g3, hg3⟩ : ∃ g, g = w3.heap.size := ⟨_, rfl⟩
      have HW3 := Lib.hid (show w.heap.size ≤ g3 by rw [hg3]; exact BW0.out.size)
      have D0b := Lib.hid (show g1 < g3 by rw [hg3]; exact D0x.out.lt)
      generalize hw4 : (w3.alloc (.cells #[.int .u64 0, .slice none 0 0] 45)).alloc (.cells #[.int .u64 0, .slice none 0 0] 45) = w4 at *
      rw [← hg3] at Z3 Z4 ⊢
      clear hw4 xa hg3
      (with_reducible refine ⟨?_⟩); (with_reducible refine at_any ?_ ?_); (focus go_simp); refine fun K0 hK => wp_st45 _ _ g3 3 0 pl nilP rfl rfl rfl Z3.out (fun w5 hd ho => hK _ _ ?_)
      have A3 := Lib.hid hd
      replace Z4 := Lib.hid (ho.lb Z4.out (by omega))
      replace PL := Lib.hid (PL.out.st ho Z3.out)
      replace PN := Lib.hid (PN.out.st ho Z3.out)
      replace D0 := Lib.hid (show DB w5 g1 K4 from ⟨D0.out.1, ho.bk D0.out.2 (by have := D0b.out; omega)⟩)
      replace BW := Lib.hid (ho.below w.heap.size HW3.out w BW.out)
      clear hK ho hd Z3
      go_wp2_with (first | (with_reducible refine Sm.stop_load59 ?_) | (with_reducible refine Sm.stop_store59 ?_) | (with_reducible refine stop_load45 ?_) | (with_reducible refine stop_store45 ?_))
      (with_reducible refine ⟨?_⟩); (with_reducible refine at_any ?_ ?_); (focus go_simp); refine fun K0 hK => wp_st45 _ _ (g3 + 1) 4 0 pn nilP rfl rfl rfl Z4.out (fun w6 hd ho => hK _ _ ?_)
      have A4 := Lib.hid hd
      replace A3 := Lib.hid (ho.lb A3.out (by omega))
      replace PL := Lib.hid (PL.out.st ho Z4.out)
      replace PN := Lib.hid (PN.out.st ho Z4.out)
      replace D0 := Lib.hid (show DB w6 g1 K4 from ⟨D0.out.1, ho.bk D0.out.2 (by have := D0b.out; omega)⟩)
      replace BW := Lib.hid (ho.below w.heap.size (by have := HW3.out; omega) w BW.out)
      clear hK ho hd Z4 BW0 D0x
      obtain ⟨g4, hg4⟩ : ∃ g, g = g3 + 1 := ⟨_, rfl⟩
      rw [← hg4] at A4 ⊢
      clear hg4 HW3 D0b
      have VO := Lib.hid (fun (j : Nat) (X : Int) (W : World) (h : pn.In W W.heap.size) => (show Calls Try.prog 39 #[digV K4, LV 4 pn, .int .i64 (j : Int), .int .i64 X] W (VpPost (votesL K4 4 pn.l j X 8) W) from votes_any K4 rfl 4 (by decide) (by decide) pn (by rw [HLN.out]; exact mem8_len _ _) j X W h))
      have SA := Lib.hid (fun (q : Vp) (W : World) (h1 : pl.In W W.heap.size) (h2 : pn.In W W.heap.size) (hq : q.In W W.heap.size) (hl : q.l.length ≤ 9223372036854775807) => (show Calls Try.prog 38 #[digV K4, LV 3 pl, LV 4 pn, q.V] W fun e w' => e = .returned (.bool true) ∧ Below W.heap.size W w' from same15_any K4 rfl 3 4 (by decide) (by decide) pl pn q W h1 h2 hq hl (by rw [HLN.out]; exact Nat.le_trans (mem8_len _ _) (by decide))))
      have SB := Lib.hid (fun (q : Vp) (W : World) (h1 : pl.In W W.heap.size) (hq : q.In W W.heap.size) (hl : q.l.length ≤ 9223372036854775807) => (show Calls Try.prog 38 #[digV K4, LV 3 pl, LV 3 pl, q.V] W fun e w' => e = .returned (.bool true) ∧ Below W.heap.size W w' from same15_any K4 rfl 3 3 (by decide) (by decide) pl pl q W h1 h1 hq hl (by rw [HLL.out]; exact Nat.le_trans (mem8_len _ _) (by decide))))
      clear hlt hb1 q0 q1
      go_wp2_with (first | (with_reducible refine Sm.stop_load59 ?_) | (with_reducible refine Sm.stop_store59 ?_) | (with_reducible refine stop_load45 ?_) | (with_reducible refine stop_store45 ?_))
      go_loopw [5] (fun i wr => ∃ (j : Nat), j ≤ 64 ∧ i = .int .i64 j ∧ Hid (DB wr g1 K4) ∧ Hid (LB wr g3 3 pl) ∧ Hid (LB wr g4 4 pn) ∧ Hid (pl.In wr wr.heap.size) ∧ Hid (pn.In wr wr.heap.size) ∧ Hid (Ex w wr)) (fun i _ => 64 - (intOf i).toNat)
      case atStart => exact ⟨0, by omega, rfl, D0, A3, A4, PL, PN, BW⟩
      case round =>
        clear D0 A3 A4 PL PN BW
        obtain ⟨j, hj, rfl, D0, A3, A4, PL, PN, BW⟩ := hrel
        by_cases hlt : j < 64
        · have q0 : (0 : Int) ≤ (j : Int) := by omega
          have q1 : (j : Int) < 64 := by omega
          go_wp2_with (first | (with_reducible refine Sm.stop_load59 ?_) | (with_reducible refine Sm.stop_store59 ?_) | (with_reducible refine stop_load45 ?_) | (with_reducible refine stop_store45 ?_))
          obtain ⟨T, hT⟩ : ∃ T : List Av, T = [.is (digV K4), .is (LV 3 pl), .is (LV 4 pn), .is (digV K4), .is (LV 4 pn), .is (.int .i64 j), .vp (votesL K4 4 pn.l j 0 8), .is (.bool true), .is (.bool false), .is (.bool false), .is (digV K4), .is (LV 3 pl), .is (LV 4 pn), .is (digV K4), .is (LV 4 pn), .is (.int .i64 j), .vp (votesL K4 4 pn.l j 1 8), .is (.bool true), .is (.bool false), .is (.bool false), .is (.bool false), .is (digV K4), .is (LV 3 pl), .is (LV 3 pl), .is (digV K4), .is (LV 4 pn), .is (.int .i64 j), .vp (votesL K4 4 pn.l j 0 8), .is (.bool true), .is (.bool false), .is (.bool false)] := ⟨_, rfl⟩
          refine wp_region_gen (JM wr T) (by kernel_rfl) (by kernel_rfl) (by kernel_rfl) (fitB_spec (by kernel_rfl)) (fun listed f h => JM.start _ listed f h) ?_ ?_
          · intro i o ho
            have hi : i < 31 := (Array.getElem?_eq_some_iff.1 ho).1
            have hi' : i = 0 ∨ i = 1 ∨ i = 2 ∨ i = 3 ∨ i = 4 ∨ i = 5 ∨ i = 6 ∨ i = 7 ∨ i = 8 ∨ i = 9 ∨ i = 10 ∨ i = 11 ∨ i = 12 ∨ i = 13 ∨ i = 14 ∨ i = 15 ∨ i = 16 ∨ i = 17 ∨ i = 18 ∨ i = 19 ∨ i = 20 ∨ i = 21 ∨ i = 22 ∨ i = 23 ∨ i = 24 ∨ i = 25 ∨ i = 26 ∨ i = 27 ∨ i = 28 ∨ i = 29 ∨ i = 30 := by omega
            clear hi
            rcases hi' with rfl | rfl | rfl | rfl | rfl | rfl | rfl | rfl | rfl | rfl | rfl | rfl | rfl | rfl | rfl | rfl | rfl | rfl | rfl | rfl | rfl | rfl | rfl | rfl | rfl | rfl | rfl | rfl | rfl | rfl | rfl
            all_goals (simp only [List.getElem?_toArray, List.getElem?_cons_zero, List.getElem?_cons_succ, Option.some.injEq] at ho; subst ho; intro listed f a w6 hJ hsz hls hun hdep hout hlat)
            · rw [if_pos (by rfl)]
              intro K hK
              have q1 := hout 1 (outB_spec (by kernel_rfl))
              exact Sm.wp_ld _ g1 K4 rfl q1 (DB.ext D0.out hJ.ext) (hK _ _ (hJ.next (Ex.refl _) (by rw [hT]; rfl)))
            · rw [if_pos (by rfl)]
              intro K hK
              have q3 := hout 3 (outB_spec (by kernel_rfl))
              exact wp_ld45 _ g3 3 pl rfl q3 (LB.ext A3.out hJ.ext) (hK _ _ (hJ.next (Ex.refl _) (by rw [hT]; rfl)))
            · rw [if_pos (by rfl)]
              intro K hK
              have q4 := hout 4 (outB_spec (by kernel_rfl))
              exact wp_ld45 _ g4 4 pn rfl q4 (LB.ext A4.out hJ.ext) (hK _ _ (hJ.next (Ex.refl _) (by rw [hT]; rfl)))
            · rw [if_pos (by rfl)]
              intro K hK
              have q1 := hout 1 (outB_spec (by kernel_rfl))
              exact Sm.wp_ld _ g1 K4 rfl q1 (DB.ext D0.out hJ.ext) (hK _ _ (hJ.next (Ex.refl _) (by rw [hT]; rfl)))
            · rw [if_pos (by rfl)]
              intro K hK
              have q4 := hout 4 (outB_spec (by kernel_rfl))
              exact wp_ld45 _ g4 4 pn rfl q4 (LB.ext A4.out hJ.ext) (hK _ _ (hJ.next (Ex.refl _) (by rw [hT]; rfl)))
            · rw [if_pos (by rfl)]
              intro K hK
              have q5 := hout 5 (outB_spec (by kernel_rfl))
              refine wp_mv _ rfl (hK _ _ ?_)
              rw [show a.eval (.tmp 5) = .int .i64 j from q5]
              exact hJ.next (Ex.refl _) (by rw [hT]; rfl)
            · rw [if_pos (by rfl)]
              intro K hK
              have q23 := (hdep ⟨3, .data⟩ (by simp) rfl).2 _ rfl _ rfl
              have h23 := hJ.vals 3 (hdep ⟨3, .data⟩ (by simp) rfl).1
              rw [hT] at h23
              rw [show f 3 = digV K4 from h23] at q23
              clear h23
              have q24 := (hdep ⟨4, .data⟩ (by simp) rfl).2 _ rfl _ rfl
              have h24 := hJ.vals 4 (hdep ⟨4, .data⟩ (by simp) rfl).1
              rw [hT] at h24
              rw [show f 4 = LV 4 pn from h24] at q24
              clear h24
              have q25 := (hdep ⟨5, .data⟩ (by simp) rfl).2 _ rfl _ rfl
              have h25 := hJ.vals 5 (hdep ⟨5, .data⟩ (by simp) rfl).1
              rw [hT] at h25
              rw [show f 5 = .int .i64 j from h25] at q25
              clear h25
              rw [Array.getD_eq_getD_getElem?] at q23
              rw [Array.getD_eq_getD_getElem?] at q24
              rw [Array.getD_eq_getD_getElem?] at q25
              have cm := Lib.hid (VO.out (j : Nat) 0 w6 (Pt.In.ext PN.out hJ.ext))
              unfold LV at cm q24
              clear hsz hdep hout hlat
              go_simp
              refine cm.out.mono ?_
              rintro e w3 ⟨q, rfl, lq, iq, xq⟩
              exact hK _ _ (hJ.next xq (by rw [hT]; exact ⟨q, rfl, lq, iq⟩))
            · rw [if_pos (by rfl)]
              intro K hK
              have q20 := (hdep ⟨0, .data⟩ (by simp) rfl).2 _ rfl _ rfl
              have h20 := hJ.vals 0 (hdep ⟨0, .data⟩ (by simp) rfl).1
              rw [hT] at h20
              rw [show f 0 = digV K4 from h20] at q20
              clear h20
              have q21 := (hdep ⟨1, .data⟩ (by simp) rfl).2 _ rfl _ rfl
              have h21 := hJ.vals 1 (hdep ⟨1, .data⟩ (by simp) rfl).1
              rw [hT] at h21
              rw [show f 1 = LV 3 pl from h21] at q21
              clear h21
              have q22 := (hdep ⟨2, .data⟩ (by simp) rfl).2 _ rfl _ rfl
              have h22 := hJ.vals 2 (hdep ⟨2, .data⟩ (by simp) rfl).1
              rw [hT] at h22
              rw [show f 2 = LV 4 pn from h22] at q22
              clear h22
              have q26 := (hdep ⟨6, .data⟩ (by simp) rfl).2 _ rfl _ rfl
              have h26 := hJ.vals 6 (hdep ⟨6, .data⟩ (by simp) rfl).1
              rw [hT] at h26
              obtain ⟨p26, e26, l26, i26⟩ := h26
              rw [e26] at q26
              clear e26
              rw [Array.getD_eq_getD_getElem?] at q20
              rw [Array.getD_eq_getD_getElem?] at q21
              rw [Array.getD_eq_getD_getElem?] at q22
              rw [Array.getD_eq_getD_getElem?] at q26
              have cm := Lib.hid (SA.out p26 w6 (Pt.In.ext PL.out hJ.ext) (Pt.In.ext PN.out hJ.ext) i26 (by rw [l26]; exact Nat.le_trans (votesL_len _ _ _ _ _ _) (by omega)))
              unfold LV at cm q21 q22
              unfold Vp.V at cm q26
              clear l26 i26
              generalize p26.l.length = n26 at cm q26
              clear hsz hdep hout hlat
              go_simp
              refine cm.out.mono ?_
              rintro e w3 ⟨rfl, xq⟩
              exact hK _ _ (hJ.next xq (by rw [hT]; rfl))
            · rw [if_pos (by rfl)]
              intro K hK
              have q27 := (hdep ⟨7, .data⟩ (by simp) rfl).2 _ rfl _ rfl
              have h27 := hJ.vals 7 (hdep ⟨7, .data⟩ (by simp) rfl).1
              rw [hT] at h27
              rw [show f 7 = .bool true from h27] at q27
              clear h27
              rw [Array.getD_eq_getD_getElem?] at q27
              clear hsz hdep hout hlat
              go_simp
              exact hK _ _ (hJ.next (Ex.refl _) (by rw [hT]; rfl))
            · rw [if_pos (by rfl)]
              intro K hK
              have q28 := (hdep ⟨8, .data⟩ (by simp) rfl).2 _ rfl _ rfl
              have h28 := hJ.vals 8 (hdep ⟨8, .data⟩ (by simp) rfl).1
              rw [hT] at h28
              rw [show f 8 = .bool false from h28] at q28
              clear h28
              refine wp_mv _ rfl (hK _ _ ?_)
              rw [show a.eval (.tmp 28) = .bool false from q28]
              exact hJ.next (Ex.refl _) (by rw [hT]; rfl)
            · have kg := (hdep ⟨9, .guard⟩ (by simp) rfl).2 _ rfl _ rfl
              have hg := hJ.vals 9 (hdep ⟨9, .guard⟩ (by simp) rfl).1
              rw [hT] at hg
              rw [show f 9 = .bool false from hg] at kg
              clear hg
              rw [if_pos (wanted_of rfl rfl rfl kg)]
              intro K hK
              have q1 := hout 1 (outB_spec (by kernel_rfl))
              exact Sm.wp_ld _ g1 K4 rfl q1 (DB.ext D0.out hJ.ext) (hK _ _ (hJ.next (Ex.refl _) (by rw [hT]; rfl)))
            · have kg := (hdep ⟨9, .guard⟩ (by simp) rfl).2 _ rfl _ rfl
              have hg := hJ.vals 9 (hdep ⟨9, .guard⟩ (by simp) rfl).1
              rw [hT] at hg
              rw [show f 9 = .bool false from hg] at kg
              clear hg
              rw [if_pos (wanted_of rfl rfl rfl kg)]
              intro K hK
              have q3 := hout 3 (outB_spec (by kernel_rfl))
              exact wp_ld45 _ g3 3 pl rfl q3 (LB.ext A3.out hJ.ext) (hK _ _ (hJ.next (Ex.refl _) (by rw [hT]; rfl)))
            · have kg := (hdep ⟨9, .guard⟩ (by simp) rfl).2 _ rfl _ rfl
              have hg := hJ.vals 9 (hdep ⟨9, .guard⟩ (by simp) rfl).1
              rw [hT] at hg
              rw [show f 9 = .bool false from hg] at kg
              clear hg
              rw [if_pos (wanted_of rfl rfl rfl kg)]
              intro K hK
              have q4 := hout 4 (outB_spec (by kernel_rfl))
              exact wp_ld45 _ g4 4 pn rfl q4 (LB.ext A4.out hJ.ext) (hK _ _ (hJ.next (Ex.refl _) (by rw [hT]; rfl)))
            · have kg := (hdep ⟨9, .guard⟩ (by simp) rfl).2 _ rfl _ rfl
              have hg := hJ.vals 9 (hdep ⟨9, .guard⟩ (by simp) rfl).1
              rw [hT] at hg
              rw [show f 9 = .bool false from hg] at kg
              clear hg
              rw [if_pos (wanted_of rfl rfl rfl kg)]
              intro K hK
              have q1 := hout 1 (outB_spec (by kernel_rfl))
              exact Sm.wp_ld _ g1 K4 rfl q1 (DB.ext D0.out hJ.ext) (hK _ _ (hJ.next (Ex.refl _) (by rw [hT]; rfl)))
            · have kg := (hdep ⟨9, .guard⟩ (by simp) rfl).2 _ rfl _ rfl
              have hg := hJ.vals 9 (hdep ⟨9, .guard⟩ (by simp) rfl).1
              rw [hT] at hg
              rw [show f 9 = .bool false from hg] at kg
              clear hg
              rw [if_pos (wanted_of rfl rfl rfl kg)]
              intro K hK
              have q4 := hout 4 (outB_spec (by kernel_rfl))
              exact wp_ld45 _ g4 4 pn rfl q4 (LB.ext A4.out hJ.ext) (hK _ _ (hJ.next (Ex.refl _) (by rw [hT]; rfl)))
            · have kg := (hdep ⟨9, .guard⟩ (by simp) rfl).2 _ rfl _ rfl
              have hg := hJ.vals 9 (hdep ⟨9, .guard⟩ (by simp) rfl).1
              rw [hT] at hg
              rw [show f 9 = .bool false from hg] at kg
              clear hg
              rw [if_pos (wanted_of rfl rfl rfl kg)]
              intro K hK
              have q5 := hout 5 (outB_spec (by kernel_rfl))
              refine wp_mv _ rfl (hK _ _ ?_)
              rw [show a.eval (.tmp 5) = .int .i64 j from q5]
              exact hJ.next (Ex.refl _) (by rw [hT]; rfl)
            · have kg := (hdep ⟨9, .guard⟩ (by simp) rfl).2 _ rfl _ rfl
              have hg := hJ.vals 9 (hdep ⟨9, .guard⟩ (by simp) rfl).1
              rw [hT] at hg
              rw [show f 9 = .bool false from hg] at kg
              clear hg
              rw [if_pos (wanted_of rfl rfl rfl kg)]
              intro K hK
              have q33 := (hdep ⟨13, .data⟩ (by simp) rfl).2 _ rfl _ rfl
              have h33 := hJ.vals 13 (hdep ⟨13, .data⟩ (by simp) rfl).1
              rw [hT] at h33
              rw [show f 13 = digV K4 from h33] at q33
              clear h33
              have q34 := (hdep ⟨14, .data⟩ (by simp) rfl).2 _ rfl _ rfl
              have h34 := hJ.vals 14 (hdep ⟨14, .data⟩ (by simp) rfl).1
              rw [hT] at h34
              rw [show f 14 = LV 4 pn from h34] at q34
              clear h34
              have q35 := (hdep ⟨15, .data⟩ (by simp) rfl).2 _ rfl _ rfl
              have h35 := hJ.vals 15 (hdep ⟨15, .data⟩ (by simp) rfl).1
              rw [hT] at h35
              rw [show f 15 = .int .i64 j from h35] at q35
              clear h35
              rw [Array.getD_eq_getD_getElem?] at q33
              rw [Array.getD_eq_getD_getElem?] at q34
              rw [Array.getD_eq_getD_getElem?] at q35
              have cm := Lib.hid (VO.out (j : Nat) 1 w6 (Pt.In.ext PN.out hJ.ext))
              unfold LV at cm q34
              clear hsz hdep hout hlat
              go_simp
              refine cm.out.mono ?_
              rintro e w3 ⟨q, rfl, lq, iq, xq⟩
              exact hK _ _ (hJ.next xq (by rw [hT]; exact ⟨q, rfl, lq, iq⟩))
            · have kg := (hdep ⟨9, .guard⟩ (by simp) rfl).2 _ rfl _ rfl
              have hg := hJ.vals 9 (hdep ⟨9, .guard⟩ (by simp) rfl).1
              rw [hT] at hg
              rw [show f 9 = .bool false from hg] at kg
              clear hg
              rw [if_pos (wanted_of rfl rfl rfl kg)]
              intro K hK
              have q30 := (hdep ⟨10, .data⟩ (by simp) rfl).2 _ rfl _ rfl
              have h30 := hJ.vals 10 (hdep ⟨10, .data⟩ (by simp) rfl).1
              rw [hT] at h30
              rw [show f 10 = digV K4 from h30] at q30
              clear h30
              have q31 := (hdep ⟨11, .data⟩ (by simp) rfl).2 _ rfl _ rfl
              have h31 := hJ.vals 11 (hdep ⟨11, .data⟩ (by simp) rfl).1
              rw [hT] at h31
              rw [show f 11 = LV 3 pl from h31] at q31
              clear h31
              have q32 := (hdep ⟨12, .data⟩ (by simp) rfl).2 _ rfl _ rfl
              have h32 := hJ.vals 12 (hdep ⟨12, .data⟩ (by simp) rfl).1
              rw [hT] at h32
              rw [show f 12 = LV 4 pn from h32] at q32
              clear h32
              have q36 := (hdep ⟨16, .data⟩ (by simp) rfl).2 _ rfl _ rfl
              have h36 := hJ.vals 16 (hdep ⟨16, .data⟩ (by simp) rfl).1
              rw [hT] at h36
              obtain ⟨p36, e36, l36, i36⟩ := h36
              rw [e36] at q36
              clear e36
              rw [Array.getD_eq_getD_getElem?] at q30
              rw [Array.getD_eq_getD_getElem?] at q31
              rw [Array.getD_eq_getD_getElem?] at q32
              rw [Array.getD_eq_getD_getElem?] at q36
              have cm := Lib.hid (SA.out p36 w6 (Pt.In.ext PL.out hJ.ext) (Pt.In.ext PN.out hJ.ext) i36 (by rw [l36]; exact Nat.le_trans (votesL_len _ _ _ _ _ _) (by omega)))
              unfold LV at cm q31 q32
              unfold Vp.V at cm q36
              clear l36 i36
              generalize p36.l.length = n36 at cm q36
              clear hsz hdep hout hlat
              go_simp
              refine cm.out.mono ?_
              rintro e w3 ⟨rfl, xq⟩
              exact hK _ _ (hJ.next xq (by rw [hT]; rfl))
            · have kg := (hdep ⟨9, .guard⟩ (by simp) rfl).2 _ rfl _ rfl
              have hg := hJ.vals 9 (hdep ⟨9, .guard⟩ (by simp) rfl).1
              rw [hT] at hg
              rw [show f 9 = .bool false from hg] at kg
              clear hg
              rw [if_pos (wanted_of rfl rfl rfl kg)]
              intro K hK
              have q37 := (hdep ⟨17, .data⟩ (by simp) rfl).2 _ rfl _ rfl
              have h37 := hJ.vals 17 (hdep ⟨17, .data⟩ (by simp) rfl).1
              rw [hT] at h37
              rw [show f 17 = .bool true from h37] at q37
              clear h37
              rw [Array.getD_eq_getD_getElem?] at q37
              clear hsz hdep hout hlat
              go_simp
              exact hK _ _ (hJ.next (Ex.refl _) (by rw [hT]; rfl))
            · rw [if_pos (by rfl)]
              intro K hK
              have q29 := (hdep ⟨9, .data⟩ (by simp) rfl).2 _ rfl _ rfl
              have h29 := hJ.vals 9 (hdep ⟨9, .data⟩ (by simp) rfl).1
              rw [hT] at h29
              rw [show f 9 = .bool false from h29] at q29
              clear h29
              have q38 := (hdep ⟨18, .data⟩ (by simp) rfl).2 _ rfl _ rfl
              have h38 := hJ.vals 18 (hdep ⟨18, .data⟩ (by simp) rfl).1
              rw [hT] at h38
              rw [show f 18 = .bool false from h38] at q38
              clear h38
              rw [Array.getD_eq_getD_getElem?] at q29
              rw [Array.getD_eq_getD_getElem?] at q38
              clear hsz hdep hout hlat
              go_simp
              exact hK _ _ (hJ.next (Ex.refl _) (by rw [hT]; rfl))
            · rw [if_pos (by rfl)]
              intro K hK
              have q39 := (hdep ⟨19, .data⟩ (by simp) rfl).2 _ rfl _ rfl
              have h39 := hJ.vals 19 (hdep ⟨19, .data⟩ (by simp) rfl).1
              rw [hT] at h39
              rw [show f 19 = .bool false from h39] at q39
              clear h39
              refine wp_mv _ rfl (hK _ _ ?_)
              rw [show a.eval (.tmp 39) = .bool false from q39]
              exact hJ.next (Ex.refl _) (by rw [hT]; rfl)
            · have kg := (hdep ⟨20, .guard⟩ (by simp) rfl).2 _ rfl _ rfl
              have hg := hJ.vals 20 (hdep ⟨20, .guard⟩ (by simp) rfl).1
              rw [hT] at hg
              rw [show f 20 = .bool false from hg] at kg
              clear hg
              rw [if_pos (wanted_of rfl rfl rfl kg)]
              intro K hK
              have q1 := hout 1 (outB_spec (by kernel_rfl))
              exact Sm.wp_ld _ g1 K4 rfl q1 (DB.ext D0.out hJ.ext) (hK _ _ (hJ.next (Ex.refl _) (by rw [hT]; rfl)))
            · have kg := (hdep ⟨20, .guard⟩ (by simp) rfl).2 _ rfl _ rfl
              have hg := hJ.vals 20 (hdep ⟨20, .guard⟩ (by simp) rfl).1
              rw [hT] at hg
              rw [show f 20 = .bool false from hg] at kg
              clear hg
              rw [if_pos (wanted_of rfl rfl rfl kg)]
              intro K hK
              have q3 := hout 3 (outB_spec (by kernel_rfl))
              exact wp_ld45 _ g3 3 pl rfl q3 (LB.ext A3.out hJ.ext) (hK _ _ (hJ.next (Ex.refl _) (by rw [hT]; rfl)))
            · have kg := (hdep ⟨20, .guard⟩ (by simp) rfl).2 _ rfl _ rfl
              have hg := hJ.vals 20 (hdep ⟨20, .guard⟩ (by simp) rfl).1
              rw [hT] at hg
              rw [show f 20 = .bool false from hg] at kg
              clear hg
              rw [if_pos (wanted_of rfl rfl rfl kg)]
              intro K hK
              have q3 := hout 3 (outB_spec (by kernel_rfl))
              exact wp_ld45 _ g3 3 pl rfl q3 (LB.ext A3.out hJ.ext) (hK _ _ (hJ.next (Ex.refl _) (by rw [hT]; rfl)))
            · have kg := (hdep ⟨20, .guard⟩ (by simp) rfl).2 _ rfl _ rfl
              have hg := hJ.vals 20 (hdep ⟨20, .guard⟩ (by simp) rfl).1
              rw [hT] at hg
              rw [show f 20 = .bool false from hg] at kg
              clear hg
              rw [if_pos (wanted_of rfl rfl rfl kg)]
              intro K hK
              have q1 := hout 1 (outB_spec (by kernel_rfl))
              exact Sm.wp_ld _ g1 K4 rfl q1 (DB.ext D0.out hJ.ext) (hK _ _ (hJ.next (Ex.refl _) (by rw [hT]; rfl)))
            · have kg := (hdep ⟨20, .guard⟩ (by simp) rfl).2 _ rfl _ rfl
              have hg := hJ.vals 20 (hdep ⟨20, .guard⟩ (by simp) rfl).1
              rw [hT] at hg
              rw [show f 20 = .bool false from hg] at kg
              clear hg
              rw [if_pos (wanted_of rfl rfl rfl kg)]
              intro K hK
              have q4 := hout 4 (outB_spec (by kernel_rfl))
              exact wp_ld45 _ g4 4 pn rfl q4 (LB.ext A4.out hJ.ext) (hK _ _ (hJ.next (Ex.refl _) (by rw [hT]; rfl)))
            · have kg := (hdep ⟨20, .guard⟩ (by simp) rfl).2 _ rfl _ rfl
              have hg := hJ.vals 20 (hdep ⟨20, .guard⟩ (by simp) rfl).1
              rw [hT] at hg
              rw [show f 20 = .bool false from hg] at kg
              clear hg
              rw [if_pos (wanted_of rfl rfl rfl kg)]
              intro K hK
              have q5 := hout 5 (outB_spec (by kernel_rfl))
              refine wp_mv _ rfl (hK _ _ ?_)
              rw [show a.eval (.tmp 5) = .int .i64 j from q5]
              exact hJ.next (Ex.refl _) (by rw [hT]; rfl)
            · have kg := (hdep ⟨20, .guard⟩ (by simp) rfl).2 _ rfl _ rfl
              have hg := hJ.vals 20 (hdep ⟨20, .guard⟩ (by simp) rfl).1
              rw [hT] at hg
              rw [show f 20 = .bool false from hg] at kg
              clear hg
              rw [if_pos (wanted_of rfl rfl rfl kg)]
              intro K hK
              have q44 := (hdep ⟨24, .data⟩ (by simp) rfl).2 _ rfl _ rfl
              have h44 := hJ.vals 24 (hdep ⟨24, .data⟩ (by simp) rfl).1
              rw [hT] at h44
              rw [show f 24 = digV K4 from h44] at q44
              clear h44
              have q45 := (hdep ⟨25, .data⟩ (by simp) rfl).2 _ rfl _ rfl
              have h45 := hJ.vals 25 (hdep ⟨25, .data⟩ (by simp) rfl).1
              rw [hT] at h45
              rw [show f 25 = LV 4 pn from h45] at q45
              clear h45
              have q46 := (hdep ⟨26, .data⟩ (by simp) rfl).2 _ rfl _ rfl
              have h46 := hJ.vals 26 (hdep ⟨26, .data⟩ (by simp) rfl).1
              rw [hT] at h46
              rw [show f 26 = .int .i64 j from h46] at q46
              clear h46
              rw [Array.getD_eq_getD_getElem?] at q44
              rw [Array.getD_eq_getD_getElem?] at q45
              rw [Array.getD_eq_getD_getElem?] at q46
              have cm := Lib.hid (VO.out (j : Nat) 0 w6 (Pt.In.ext PN.out hJ.ext))
              unfold LV at cm q45
              clear hsz hdep hout hlat
              go_simp
              refine cm.out.mono ?_
              rintro e w3 ⟨q, rfl, lq, iq, xq⟩
              exact hK _ _ (hJ.next xq (by rw [hT]; exact ⟨q, rfl, lq, iq⟩))
            · have kg := (hdep ⟨20, .guard⟩ (by simp) rfl).2 _ rfl _ rfl
              have hg := hJ.vals 20 (hdep ⟨20, .guard⟩ (by simp) rfl).1
              rw [hT] at hg
              rw [show f 20 = .bool false from hg] at kg
              clear hg
              rw [if_pos (wanted_of rfl rfl rfl kg)]
              intro K hK
              have q41 := (hdep ⟨21, .data⟩ (by simp) rfl).2 _ rfl _ rfl
              have h41 := hJ.vals 21 (hdep ⟨21, .data⟩ (by simp) rfl).1
              rw [hT] at h41
              rw [show f 21 = digV K4 from h41] at q41
              clear h41
              have q42 := (hdep ⟨22, .data⟩ (by simp) rfl).2 _ rfl _ rfl
              have h42 := hJ.vals 22 (hdep ⟨22, .data⟩ (by simp) rfl).1
              rw [hT] at h42
              rw [show f 22 = LV 3 pl from h42] at q42
              clear h42
              have q43 := (hdep ⟨23, .data⟩ (by simp) rfl).2 _ rfl _ rfl
              have h43 := hJ.vals 23 (hdep ⟨23, .data⟩ (by simp) rfl).1
              rw [hT] at h43
              rw [show f 23 = LV 3 pl from h43] at q43
              clear h43
              have q47 := (hdep ⟨27, .data⟩ (by simp) rfl).2 _ rfl _ rfl
              have h47 := hJ.vals 27 (hdep ⟨27, .data⟩ (by simp) rfl).1
              rw [hT] at h47
              obtain ⟨p47, e47, l47, i47⟩ := h47
              rw [e47] at q47
              clear e47
              rw [Array.getD_eq_getD_getElem?] at q41
              rw [Array.getD_eq_getD_getElem?] at q42
              rw [Array.getD_eq_getD_getElem?] at q43
              rw [Array.getD_eq_getD_getElem?] at q47
              have cm := Lib.hid (SB.out p47 w6 (Pt.In.ext PL.out hJ.ext) i47 (by rw [l47]; exact Nat.le_trans (votesL_len _ _ _ _ _ _) (by omega)))
              unfold LV at cm q42 q43
              unfold Vp.V at cm q47
              clear l47 i47
              generalize p47.l.length = n47 at cm q47
              clear hsz hdep hout hlat
              go_simp
              refine cm.out.mono ?_
              rintro e w3 ⟨rfl, xq⟩
              exact hK _ _ (hJ.next xq (by rw [hT]; rfl))
            · have kg := (hdep ⟨20, .guard⟩ (by simp) rfl).2 _ rfl _ rfl
              have hg := hJ.vals 20 (hdep ⟨20, .guard⟩ (by simp) rfl).1
              rw [hT] at hg
              rw [show f 20 = .bool false from hg] at kg
              clear hg
              rw [if_pos (wanted_of rfl rfl rfl kg)]
              intro K hK
              have q48 := (hdep ⟨28, .data⟩ (by simp) rfl).2 _ rfl _ rfl
              have h48 := hJ.vals 28 (hdep ⟨28, .data⟩ (by simp) rfl).1
              rw [hT] at h48
              rw [show f 28 = .bool true from h48] at q48
              clear h48
              rw [Array.getD_eq_getD_getElem?] at q48
              clear hsz hdep hout hlat
              go_simp
              exact hK _ _ (hJ.next (Ex.refl _) (by rw [hT]; rfl))
            · rw [if_pos (by rfl)]
              intro K hK
              have q40 := (hdep ⟨20, .data⟩ (by simp) rfl).2 _ rfl _ rfl
              have h40 := hJ.vals 20 (hdep ⟨20, .data⟩ (by simp) rfl).1
              rw [hT] at h40
              rw [show f 20 = .bool false from h40] at q40
              clear h40
              have q49 := (hdep ⟨29, .data⟩ (by simp) rfl).2 _ rfl _ rfl
              have h49 := hJ.vals 29 (hdep ⟨29, .data⟩ (by simp) rfl).1
              rw [hT] at h49
              rw [show f 29 = .bool false from h49] at q49
              clear h49
              rw [Array.getD_eq_getD_getElem?] at q40
              rw [Array.getD_eq_getD_getElem?] at q49
              clear hsz hdep hout hlat
              go_simp
              exact hK _ _ (hJ.next (Ex.refl _) (by rw [hT]; rfl))
          · intro listed f w6 hall hJ
            have f0 : f 0 = digV K4 := by
              have h := hJ.vals 0 (hall 0 (by simp))
              rw [hT] at h; exact h
            have f1 : f 1 = LV 3 pl := by
              have h := hJ.vals 1 (hall 1 (by simp))
              rw [hT] at h; exact h
            have f2 : f 2 = LV 4 pn := by
              have h := hJ.vals 2 (hall 2 (by simp))
              rw [hT] at h; exact h
            have f3 : f 3 = digV K4 := by
              have h := hJ.vals 3 (hall 3 (by simp))
              rw [hT] at h; exact h
            have f4 : f 4 = LV 4 pn := by
              have h := hJ.vals 4 (hall 4 (by simp))
              rw [hT] at h; exact h
            have f5 : f 5 = .int .i64 j := by
              have h := hJ.vals 5 (hall 5 (by simp))
              rw [hT] at h; exact h
            have f7 : f 7 = .bool true := by
              have h := hJ.vals 7 (hall 7 (by simp))
              rw [hT] at h; exact h
            have f8 : f 8 = .bool false := by
              have h := hJ.vals 8 (hall 8 (by simp))
              rw [hT] at h; exact h
            have f9 : f 9 = .bool false := by
              have h := hJ.vals 9 (hall 9 (by simp))
              rw [hT] at h; exact h
            have f10 : f 10 = digV K4 := by
              have h := hJ.vals 10 (hall 10 (by simp))
              rw [hT] at h; exact h
            have f11 : f 11 = LV 3 pl := by
              have h := hJ.vals 11 (hall 11 (by simp))
              rw [hT] at h; exact h
            have f12 : f 12 = LV 4 pn := by
              have h := hJ.vals 12 (hall 12 (by simp))
              rw [hT] at h; exact h
            have f13 : f 13 = digV K4 := by
              have h := hJ.vals 13 (hall 13 (by simp))
              rw [hT] at h; exact h
            have f14 : f 14 = LV 4 pn := by
              have h := hJ.vals 14 (hall 14 (by simp))
              rw [hT] at h; exact h
            have f15 : f 15 = .int .i64 j := by
              have h := hJ.vals 15 (hall 15 (by simp))
              rw [hT] at h; exact h
            have f17 : f 17 = .bool true := by
              have h := hJ.vals 17 (hall 17 (by simp))
              rw [hT] at h; exact h
            have f18 : f 18 = .bool false := by
              have h := hJ.vals 18 (hall 18 (by simp))
              rw [hT] at h; exact h
            have f19 : f 19 = .bool false := by
              have h := hJ.vals 19 (hall 19 (by simp))
              rw [hT] at h; exact h
            have f20 : f 20 = .bool false := by
              have h := hJ.vals 20 (hall 20 (by simp))
              rw [hT] at h; exact h
            have f21 : f 21 = digV K4 := by
              have h := hJ.vals 21 (hall 21 (by simp))
              rw [hT] at h; exact h
            have f22 : f 22 = LV 3 pl := by
              have h := hJ.vals 22 (hall 22 (by simp))
              rw [hT] at h; exact h
            have f23 : f 23 = LV 3 pl := by
              have h := hJ.vals 23 (hall 23 (by simp))
              rw [hT] at h; exact h
            have f24 : f 24 = digV K4 := by
              have h := hJ.vals 24 (hall 24 (by simp))
              rw [hT] at h; exact h
            have f25 : f 25 = LV 4 pn := by
              have h := hJ.vals 25 (hall 25 (by simp))
              rw [hT] at h; exact h
            have f26 : f 26 = .int .i64 j := by
              have h := hJ.vals 26 (hall 26 (by simp))
              rw [hT] at h; exact h
            have f28 : f 28 = .bool true := by
              have h := hJ.vals 28 (hall 28 (by simp))
              rw [hT] at h; exact h
            have f29 : f 29 = .bool false := by
              have h := hJ.vals 29 (hall 29 (by simp))
              rw [hT] at h; exact h
            have f30 : f 30 = .bool false := by
              have h := hJ.vals 30 (hall 30 (by simp))
              rw [hT] at h; exact h
            have xw := hJ.ext
            simp only [putAll, Act.put, List.setIfInBounds_toArray, List.set_cons_zero, List.set_cons_succ, Nat.zero_add, Nat.reduceAdd]
            rw [f0, f1, f2, f3, f4, f5, f7, f8, f9, f10, f11, f12, f13, f14, f15, f17, f18, f19, f20, f21, f22, f23, f24, f25, f26, f28, f29, f30]
            clear f0 f1 f2 f3 f4 f5 f7 f8 f9 f10 f11 f12 f13 f14 f15 f17 f18 f19 f20 f21 f22 f23 f24 f25 f26 f28 f29 f30 hJ hall hT
            generalize f 6 = y6
            generalize f 16 = y16
            generalize f 27 = y27
            replace D0 := Lib.hid (DB.ext D0.out xw)
            replace A3 := Lib.hid (LB.ext A3.out xw)
            replace A4 := Lib.hid (LB.ext A4.out xw)
            replace PL := Lib.hid (Pt.In.ext PL.out xw)
            replace PN := Lib.hid (Pt.In.ext PN.out xw)
            replace BW := Lib.hid (Ex.trans BW.out xw)
            clear xw
            go_wp2_with (first | (with_reducible refine Sm.stop_load59 ?_) | (with_reducible refine Sm.stop_store59 ?_) | (with_reducible refine stop_load45 ?_) | (with_reducible refine stop_store45 ?_))
            go_roundw
            case rel => exact ⟨j + 1, by omega, by go_num, D0, A3, A4, PL, PN, BW⟩
            case measure => simp [intOf]; omega
        · have hlt2 := HLT.out
          have hb1 := HB1.out
          have q0 : (0 : Int) ≤ (b : Int) := by omega
          have q1 : (b : Int) < 32 := by omega
          go_wp2_with (first | (with_reducible refine Sm.stop_load59 ?_) | (with_reducible refine Sm.stop_store59 ?_) | (with_reducible refine stop_load45 ?_) | (with_reducible refine stop_store45 ?_))
          go_roundw
          case rel => exact ⟨b + 1, by omega, by omega, by go_num, D0, BW⟩
          case measure => simp [intOf]; omega
    · obtain rfl : b = 32 := by omega
      go_wp2_with (first | (with_reducible refine Sm.stop_load59 ?_) | (with_reducible refine Sm.stop_store59 ?_) | (with_reducible refine stop_load45 ?_) | (with_reducible refine stop_store45 ?_))
      obtain ⟨T, hT⟩ : ∃ T : List Av, T = [.is (digV K4), .is (digV (keyL K4 258)), .is (digV K4), .is (digV (keyL K4 2)), .is (.bool true), .is (.bool true), .is (digV K4), .is (digV (keyL K4 (-1))), .is (digV K4), .is (digV (keyL K4 255)), .is (.bool true), .is (.bool true), .is (.bool true), .is (.bool true), .is (.bool true), .is (.bool true)] := ⟨_, rfl⟩
      refine wp_region_gen (JM wr T) (by kernel_rfl) (by kernel_rfl) (by kernel_rfl) (fitB_spec (by kernel_rfl)) (fun listed f h => JM.start _ listed f h) ?_ ?_
      · intro i o ho
        have hi : i < 16 := (Array.getElem?_eq_some_iff.1 ho).1
        have hi' : i = 0 ∨ i = 1 ∨ i = 2 ∨ i = 3 ∨ i = 4 ∨ i = 5 ∨ i = 6 ∨ i = 7 ∨ i = 8 ∨ i = 9 ∨ i = 10 ∨ i = 11 ∨ i = 12 ∨ i = 13 ∨ i = 14 ∨ i = 15 := by omega
        clear hi
        rcases hi' with rfl | rfl | rfl | rfl | rfl | rfl | rfl | rfl | rfl | rfl | rfl | rfl | rfl | rfl | rfl | rfl
        all_goals (simp only [List.getElem?_toArray, List.getElem?_cons_zero, List.getElem?_cons_succ, Option.some.injEq] at ho; subst ho; intro listed f a w7 hJ hsz hls hun hdep hout hlat)
        · rw [if_pos (by rfl)]
          intro K hK
          have q1 := hout 1 (outB_spec (by kernel_rfl))
          exact Sm.wp_ld _ g1 K4 rfl q1 (DB.ext D0.out hJ.ext) (hK _ _ (hJ.next (Ex.refl _) (by rw [hT]; rfl)))
        · rw [if_pos (by rfl)]
          intro K hK
          have q51 := (hdep ⟨0, .data⟩ (by simp) rfl).2 _ rfl _ rfl
          have h51 := hJ.vals 0 (hdep ⟨0, .data⟩ (by simp) rfl).1
          rw [hT] at h51
          rw [show f 0 = digV K4 from h51] at q51
          clear h51
          rw [Array.getD_eq_getD_getElem?] at q51
          clear hsz hdep hout hlat
          go_simp
          refine (show Calls Try.prog 40 #[digV K4, .int .i64 258] w7 fun e w' => e = .returned (digV (keyL K4 258)) ∧ Below w7.heap.size w7 w' from Sm.key_any K4 rfl 258 w7).mono ?_
          rintro e w3 ⟨rfl, xq⟩
          exact hK _ _ (hJ.next xq (by rw [hT]; rfl))
        · rw [if_pos (by rfl)]
          intro K hK
          have q1 := hout 1 (outB_spec (by kernel_rfl))
          exact Sm.wp_ld _ g1 K4 rfl q1 (DB.ext D0.out hJ.ext) (hK _ _ (hJ.next (Ex.refl _) (by rw [hT]; rfl)))
        · rw [if_pos (by rfl)]
          intro K hK
          have q53 := (hdep ⟨2, .data⟩ (by simp) rfl).2 _ rfl _ rfl
          have h53 := hJ.vals 2 (hdep ⟨2, .data⟩ (by simp) rfl).1
          rw [hT] at h53
          rw [show f 2 = digV K4 from h53] at q53
          clear h53
          rw [Array.getD_eq_getD_getElem?] at q53
          clear hsz hdep hout hlat
          go_simp
          refine (show Calls Try.prog 41 #[digV K4, .int .i64 2] w7 fun e w' => e = .returned (digV (keyL K4 2)) ∧ Below w7.heap.size w7 w' from Sm.rkey_any K4 rfl 2 w7).mono ?_
          rintro e w3 ⟨rfl, xq⟩
          exact hK _ _ (hJ.next xq (by rw [hT]; rfl))
        · rw [if_pos (by rfl)]
          intro K hK
          have q52 := (hdep ⟨1, .data⟩ (by simp) rfl).2 _ rfl _ rfl
          have h52 := hJ.vals 1 (hdep ⟨1, .data⟩ (by simp) rfl).1
          rw [hT] at h52
          rw [show f 1 = digV (keyL K4 258) from h52] at q52
          clear h52
          have q54 := (hdep ⟨3, .data⟩ (by simp) rfl).2 _ rfl _ rfl
          have h54 := hJ.vals 3 (hdep ⟨3, .data⟩ (by simp) rfl).1
          rw [hT] at h54
          rw [show f 3 = digV (keyL K4 2) from h54] at q54
          clear h54
          refine Sm.wp_eql_dig _ _ _ rfl (keyL K4 258) (keyL K4 2) rfl rfl q52 q54 ?_
          rw [show keyL K4 258 = keyL K4 2 from by unfold keyL; rw [show by8 258 = by8 2 from by decide], decide_eq_true rfl]
          exact hK _ _ (hJ.next (Ex.refl _) (by rw [hT]; rfl))
        · rw [if_pos (by rfl)]
          intro K hK
          have q55 := (hdep ⟨4, .data⟩ (by simp) rfl).2 _ rfl _ rfl
          have h55 := hJ.vals 4 (hdep ⟨4, .data⟩ (by simp) rfl).1
          rw [hT] at h55
          rw [show f 4 = .bool true from h55] at q55
          clear h55
          refine wp_mv _ rfl (hK _ _ ?_)
          rw [show a.eval (.tmp 55) = .bool true from q55]
          exact hJ.next (Ex.refl _) (by rw [hT]; rfl)
        · have kg := (hdep ⟨5, .guard⟩ (by simp) rfl).2 _ rfl _ rfl
          have hg := hJ.vals 5 (hdep ⟨5, .guard⟩ (by simp) rfl).1
          rw [hT] at hg
          rw [show f 5 = .bool true from hg] at kg
          clear hg
          rw [if_pos (wanted_of rfl rfl rfl kg)]
          intro K hK
          have q1 := hout 1 (outB_spec (by kernel_rfl))
          exact Sm.wp_ld _ g1 K4 rfl q1 (DB.ext D0.out hJ.ext) (hK _ _ (hJ.next (Ex.refl _) (by rw [hT]; rfl)))
        · have kg := (hdep ⟨5, .guard⟩ (by simp) rfl).2 _ rfl _ rfl
          have hg := hJ.vals 5 (hdep ⟨5, .guard⟩ (by simp) rfl).1
          rw [hT] at hg
          rw [show f 5 = .bool true from hg] at kg
          clear hg
          rw [if_pos (wanted_of rfl rfl rfl kg)]
          intro K hK
          have q57 := (hdep ⟨6, .data⟩ (by simp) rfl).2 _ rfl _ rfl
          have h57 := hJ.vals 6 (hdep ⟨6, .data⟩ (by simp) rfl).1
          rw [hT] at h57
          rw [show f 6 = digV K4 from h57] at q57
          clear h57
          rw [Array.getD_eq_getD_getElem?] at q57
          clear hsz hdep hout hlat
          go_simp
          refine (show Calls Try.prog 40 #[digV K4, .int .i64 (-1)] w7 fun e w' => e = .returned (digV (keyL K4 (-1))) ∧ Below w7.heap.size w7 w' from Sm.key_any K4 rfl (-1) w7).mono ?_
          rintro e w3 ⟨rfl, xq⟩
          exact hK _ _ (hJ.next xq (by rw [hT]; rfl))
        · have kg := (hdep ⟨5, .guard⟩ (by simp) rfl).2 _ rfl _ rfl
          have hg := hJ.vals 5 (hdep ⟨5, .guard⟩ (by simp) rfl).1
          rw [hT] at hg
          rw [show f 5 = .bool true from hg] at kg
          clear hg
          rw [if_pos (wanted_of rfl rfl rfl kg)]
          intro K hK
          have q1 := hout 1 (outB_spec (by kernel_rfl))
          exact Sm.wp_ld _ g1 K4 rfl q1 (DB.ext D0.out hJ.ext) (hK _ _ (hJ.next (Ex.refl _) (by rw [hT]; rfl)))
        · have kg := (hdep ⟨5, .guard⟩ (by simp) rfl).2 _ rfl _ rfl
          have hg := hJ.vals 5 (hdep ⟨5, .guard⟩ (by simp) rfl).1
          rw [hT] at hg
          rw [show f 5 = .bool true from hg] at kg
          clear hg
          rw [if_pos (wanted_of rfl rfl rfl kg)]
          intro K hK
          have q59 := (hdep ⟨8, .data⟩ (by simp) rfl).2 _ rfl _ rfl
          have h59 := hJ.vals 8 (hdep ⟨8, .data⟩ (by simp) rfl).1
          rw [hT] at h59
          rw [show f 8 = digV K4 from h59] at q59
          clear h59
          rw [Array.getD_eq_getD_getElem?] at q59
          clear hsz hdep hout hlat
          go_simp
          refine (show Calls Try.prog 41 #[digV K4, .int .i64 255] w7 fun e w' => e = .returned (digV (keyL K4 255)) ∧ Below w7.heap.size w7 w' from Sm.rkey_any K4 rfl 255 w7).mono ?_
          rintro e w3 ⟨rfl, xq⟩
          exact hK _ _ (hJ.next xq (by rw [hT]; rfl))
        · have kg := (hdep ⟨5, .guard⟩ (by simp) rfl).2 _ rfl _ rfl
          have hg := hJ.vals 5 (hdep ⟨5, .guard⟩ (by simp) rfl).1
          rw [hT] at hg
          rw [show f 5 = .bool true from hg] at kg
          clear hg
          rw [if_pos (wanted_of rfl rfl rfl kg)]
          intro K hK
          have q58 := (hdep ⟨7, .data⟩ (by simp) rfl).2 _ rfl _ rfl
          have h58 := hJ.vals 7 (hdep ⟨7, .data⟩ (by simp) rfl).1
          rw [hT] at h58
          rw [show f 7 = digV (keyL K4 (-1)) from h58] at q58
          clear h58
          have q60 := (hdep ⟨9, .data⟩ (by simp) rfl).2 _ rfl _ rfl
          have h60 := hJ.vals 9 (hdep ⟨9, .data⟩ (by simp) rfl).1
          rw [hT] at h60
          rw [show f 9 = digV (keyL K4 255) from h60] at q60
          clear h60
          refine Sm.wp_eql_dig _ _ _ rfl (keyL K4 (-1)) (keyL K4 255) rfl rfl q58 q60 ?_
          rw [show keyL K4 (-1) = keyL K4 255 from by unfold keyL; rw [show by8 (-1) = by8 255 from by decide], decide_eq_true rfl]
          exact hK _ _ (hJ.next (Ex.refl _) (by rw [hT]; rfl))
        · rw [if_pos (by rfl)]
          intro K hK
          have q56 := (hdep ⟨5, .data⟩ (by simp) rfl).2 _ rfl _ rfl
          have h56 := hJ.vals 5 (hdep ⟨5, .data⟩ (by simp) rfl).1
          rw [hT] at h56
          rw [show f 5 = .bool true from h56] at q56
          clear h56
          have q61 := (hdep ⟨10, .data⟩ (by simp) rfl).2 _ rfl _ rfl
          have h61 := hJ.vals 10 (hdep ⟨10, .data⟩ (by simp) rfl).1
          rw [hT] at h61
          rw [show f 10 = .bool true from h61] at q61
          clear h61
          rw [Array.getD_eq_getD_getElem?] at q56
          rw [Array.getD_eq_getD_getElem?] at q61
          clear hsz hdep hout hlat
          go_simp
          exact hK _ _ (hJ.next (Ex.refl _) (by rw [hT]; rfl))
        · rw [if_pos (by rfl)]
          intro K hK
          have q62 := (hdep ⟨11, .data⟩ (by simp) rfl).2 _ rfl _ rfl
          have h62 := hJ.vals 11 (hdep ⟨11, .data⟩ (by simp) rfl).1
          rw [hT] at h62
          rw [show f 11 = .bool true from h62] at q62
          clear h62
          refine wp_mv _ rfl (hK _ _ ?_)
          rw [show a.eval (.tmp 62) = .bool true from q62]
          exact hJ.next (Ex.refl _) (by rw [hT]; rfl)
        · have kg := (hdep ⟨12, .guard⟩ (by simp) rfl).2 _ rfl _ rfl
          have hg := hJ.vals 12 (hdep ⟨12, .guard⟩ (by simp) rfl).1
          rw [hT] at hg
          rw [show f 12 = .bool true from hg] at kg
          clear hg
          rw [if_pos (wanted_of rfl rfl rfl kg)]
          intro K hK
          clear hsz hdep hout hlat
          go_simp
          refine (KN.out w7).mono ?_
          rintro e w3 ⟨rfl, xq⟩
          exact hK _ _ (hJ.next xq (by rw [hT]; rfl))
        · rw [if_pos (by rfl)]
          intro K hK
          have q63 := (hdep ⟨12, .data⟩ (by simp) rfl).2 _ rfl _ rfl
          have h63 := hJ.vals 12 (hdep ⟨12, .data⟩ (by simp) rfl).1
          rw [hT] at h63
          rw [show f 12 = .bool true from h63] at q63
          clear h63
          have q64 := (hdep ⟨13, .data⟩ (by simp) rfl).2 _ rfl _ rfl
          have h64 := hJ.vals 13 (hdep ⟨13, .data⟩ (by simp) rfl).1
          rw [hT] at h64
          rw [show f 13 = .bool true from h64] at q64
          clear h64
          rw [Array.getD_eq_getD_getElem?] at q63
          rw [Array.getD_eq_getD_getElem?] at q64
          clear hsz hdep hout hlat
          go_simp
          exact hK _ _ (hJ.next (Ex.refl _) (by rw [hT]; rfl))
        · rw [if_pos (by rfl)]
          intro K hK
          have q65 := (hdep ⟨14, .data⟩ (by simp) rfl).2 _ rfl _ rfl
          have h65 := hJ.vals 14 (hdep ⟨14, .data⟩ (by simp) rfl).1
          rw [hT] at h65
          rw [show f 14 = .bool true from h65] at q65
          clear h65
          rw [Array.getD_eq_getD_getElem?] at q65
          clear hsz hdep hout hlat
          go_simp
          exact hK _ _ (hJ.next (Ex.refl _) (by rw [hT]; rfl))
      · intro listed f w7 hall hJ
        have f0 : f 0 = digV K4 := by
          have h := hJ.vals 0 (hall 0 (by simp))
          rw [hT] at h; exact h
        have f1 : f 1 = digV (keyL K4 258) := by
          have h := hJ.vals 1 (hall 1 (by simp))
          rw [hT] at h; exact h
        have f2 : f 2 = digV K4 := by
          have h := hJ.vals 2 (hall 2 (by simp))
          rw [hT] at h; exact h
        have f3 : f 3 = digV (keyL K4 2) := by
          have h := hJ.vals 3 (hall 3 (by simp))
          rw [hT] at h; exact h
        have f4 : f 4 = .bool true := by
          have h := hJ.vals 4 (hall 4 (by simp))
          rw [hT] at h; exact h
        have f5 : f 5 = .bool true := by
          have h := hJ.vals 5 (hall 5 (by simp))
          rw [hT] at h; exact h
        have f6 : f 6 = digV K4 := by
          have h := hJ.vals 6 (hall 6 (by simp))
          rw [hT] at h; exact h
        have f7 : f 7 = digV (keyL K4 (-1)) := by
          have h := hJ.vals 7 (hall 7 (by simp))
          rw [hT] at h; exact h
        have f8 : f 8 = digV K4 := by
          have h := hJ.vals 8 (hall 8 (by simp))
          rw [hT] at h; exact h
        have f9 : f 9 = digV (keyL K4 255) := by
          have h := hJ.vals 9 (hall 9 (by simp))
          rw [hT] at h; exact h
        have f10 : f 10 = .bool true := by
          have h := hJ.vals 10 (hall 10 (by simp))
          rw [hT] at h; exact h
        have f11 : f 11 = .bool true := by
          have h := hJ.vals 11 (hall 11 (by simp))
          rw [hT] at h; exact h
        have f12 : f 12 = .bool true := by
          have h := hJ.vals 12 (hall 12 (by simp))
          rw [hT] at h; exact h
        have f13 : f 13 = .bool true := by
          have h := hJ.vals 13 (hall 13 (by simp))
          rw [hT] at h; exact h
        have f14 : f 14 = .bool true := by
          have h := hJ.vals 14 (hall 14 (by simp))
          rw [hT] at h; exact h
        have f15 : f 15 = .bool true := by
          have h := hJ.vals 15 (hall 15 (by simp))
          rw [hT] at h; exact h
        have xw := hJ.ext
        simp only [putAll, Act.put, List.setIfInBounds_toArray, List.set_cons_zero, List.set_cons_succ, Nat.zero_add, Nat.reduceAdd]
        rw [f0, f1, f2, f3, f4, f5, f6, f7, f8, f9, f10, f11, f12, f13, f14, f15]
        clear f0 f1 f2 f3 f4 f5 f6 f7 f8 f9 f10 f11 f12 f13 f14 f15 hJ hall hT
        replace BW := Lib.hid (Ex.trans BW.out xw)
        clear xw
        go_wp2_with (first | (with_reducible refine Sm.stop_load59 ?_) | (with_reducible refine Sm.stop_store59 ?_) | (with_reducible refine stop_load45 ?_) | (with_reducible refine stop_store45 ?_))
        go_ret
        exact ⟨rfl, BW.out⟩
theorem endorseNumbers_law (w : World) : Calls Try.prog 10 #[] w fun e w' => e = .returned (.bool true) ∧ Below w.heap.size w w' := numbers15_law w
end Go.Proofs.Ytgoiidpcdifojaa
