/- walks: the law EndorseMajority -/
import Derived.Test.YtgoiidpcdifojaaEk
import Derived.Test.YtgoiidpcdifojaaRoP
namespace Go.Proofs.Ytgoiidpcdifojaa
open Go.RowKit
open Sm (digV DB by8 sumL numL zero16 by8_int)
set_option maxHeartbeats 8000000 in
set_option maxRecDepth 100000 in
theorem majority_law (C : List UInt8) (hC : C.length = 16) (x1 who x3 : Int) (w : World) : Calls Try.prog 12 #[digV C, .int .i64 x1, .int .i64 who, .int .i64 x3] w fun e w' => e = .returned (.bool true) ∧ Below w.heap.size w w' := by
  obtain ⟨b, hb, _, e255⟩ := and_mask x1 255 (by decide)
  obtain ⟨k, hk, hk7, e7⟩ := and_mask x3 7 (by decide)
  have hk8 : k < 8 := by have := Nat.and_le_right (n := k) (m := 7); omega
  have e255 : bits .and .i64 x1 255 = (b : Int) := e255
  have e7 : bits .and .i64 x3 7 = (k : Int) := e7
  have KN := Lib.hid known15_any
  have LL := Lib.hid (fun W => (show Calls Try.prog 37 #[.int .u64 3, .int .i64 (b : Int)] W (ListPost 3 (mem8 b 8) W) from list15_any 3 b hb W))
  have HBB := Lib.hid hb
  have HKK := Lib.hid hk8
  obtain ⟨cs, hcs⟩ : ∃ cs, cs = (Lib.byteCells C).toArray := ⟨_, rfl⟩
  have D0 : Hid (DB (w.alloc (.cells cs 59)) w.heap.size C) := Lib.hid ⟨hC, by rw [hcs]; exact Sm.Bk.new rfl _ _⟩
  have BW := Lib.hid (show Ex w (w.alloc (.cells cs 59)) from (Below.refl _ _).alloc (Nat.le_refl _) _)
  rw [show (Calls Try.prog 12 #[digV C, .int .i64 x1, .int .i64 who, .int .i64 x3] w) = (Calls Try.prog 12 #[.agg cs, .int .i64 x1, .int .i64 who, .int .i64 x3] w) by rw [hcs]; rfl]
  have HC := Lib.hid hC
  clear hcs hC hk hk7 hb hk8
  go_enter Try.func12, Try.ntmps12
  go_wp2_with (first | (with_reducible refine stop_load45 ?_) | (with_reducible refine stop_store45 ?_))
  generalize hw1 : w.alloc (.cells cs 59) = w1 at *
  obtain ⟨B, hB⟩ : ∃ B, B = w.heap.size := ⟨_, rfl⟩
  rw [← hB] at D0 ⊢
  have HB := Lib.hid hB
  clear hw1 hB
  refine (LL.out _).mono ?_
  rintro e w2 ⟨pl, rfl, hll, PL, xr⟩
  replace D0 := Lib.hid (DB.ext D0.out xr)
  replace BW := Lib.hid (Ex.trans BW.out xr)
  clear xr LL
  go_wp2_with (first | (with_reducible refine stop_load45 ?_) | (with_reducible refine stop_store45 ?_))
  (with_reducible refine ⟨?_⟩); (with_reducible refine at_any ?_ ?_); (focus go_simp); refine fun K0 hK => wp_st45 _ _ w2.heap.size 3 0 pl nilP rfl rfl rfl (Bk.new rfl _ _) (fun w3 hd ho => hK _ _ ?_)
  replace D0 := Lib.hid (DB.ext D0.out ho.ex)
  replace BW := Lib.hid (Ex.trans BW.out ho.ex)
  replace PL := Lib.hid ((PL.ext ((Below.refl _ _).alloc (Nat.le_refl _) _)).st (n := 0) (q := nilP) ho (Bk.new rfl _ _))
  generalize w2.heap.size = g9 at hd ⊢
  have A9 := Lib.hid hd
  have HLL := Lib.hid hll
  have cw := with_any 3 pl (k : Int) w3 PL.out
  rw [hll] at cw
  have CW := Lib.hid cw
  clear hK ho hd hll cw
  go_wp2_with (first | (with_reducible refine stop_load45 ?_) | (with_reducible refine stop_store45 ?_))
  (with_reducible refine ⟨?_⟩); (with_reducible refine at_any ?_ ?_); (focus go_simp); refine fun K0 hK => wp_ld45 _ g9 3 pl rfl rfl A9.out (hK _ _ ?_)
  clear hK
  go_wp2_with (first | (with_reducible refine stop_load45 ?_) | (with_reducible refine stop_store45 ?_))
  refine CW.out.mono ?_
  rintro e w4 ⟨pn, rfl, hln, PN, xr⟩
  replace D0 := Lib.hid (DB.ext D0.out xr)
  replace A9 := Lib.hid (LB.ext A9.out xr)
  replace PL := Lib.hid (Pt.In.ext PL.out xr)
  replace BW := Lib.hid (Ex.trans BW.out xr)
  clear xr CW
  cases hc : withB 3 (mem8 b 8) (k : Int)
  · generalize withV 3 (mem8 b 8) (k : Int) = Vx at *
    clear hc hln PN
    go_wp2_with (first | (with_reducible refine stop_load45 ?_) | (with_reducible refine stop_store45 ?_))
    (with_reducible refine ⟨?_⟩); (with_reducible refine at_any ?_ ?_); (focus go_simp); refine fun K0 hK => wp_st45 _ _ w4.heap.size Vx 0 pn nilP rfl rfl rfl (Bk.new rfl _ _) (fun w5 hd ho => hK _ _ ?_)
    replace BW := Lib.hid (Ex.trans BW.out ho.ex)
    clear hK ho hd D0 A9 PL
    go_wp2_with (first | (with_reducible refine stop_load45 ?_) | (with_reducible refine stop_store45 ?_))
    refine (KN.out _).mono ?_
    rintro e w6 ⟨rfl, xr⟩
    replace BW := Lib.hid (Ex.trans BW.out xr)
    clear xr KN
    go_wp2_with (first | (with_reducible refine stop_load45 ?_) | (with_reducible refine stop_store45 ?_))
    go_ret
    exact ⟨rfl, BW.out⟩
  · have hv : withV 3 (mem8 b 8) (k : Int) = 4 := withV_yes hc
    rw [hv]
    have hcc := hc
    unfold withB at hcc
    rw [Bool.and_eq_true] at hcc
    have hr3 : rightB 3 (mem8 b 8) = true := by
      have h := hcc.1
      unfold withOk at h
      rw [Bool.and_eq_true] at h
      exact h.1
    obtain ⟨N, hN⟩ : ∃ N, N = withL 3 (mem8 b 8) (k : Int) := ⟨_, rfl⟩
    have hr4 : rightB 4 N = true := by
      rw [hN]; unfold withL nextL; rw [if_pos hcc.1, if_pos hcc.2]; exact hcc.2
    rw [← hN] at hln
    have HLN := Lib.hid hln
    obtain ⟨okB, hok⟩ : ∃ okB, okB = decide (majI 3 (mem8 b 8) ≤ (cR (tB who b) 8 : Nat)) := ⟨_, rfl⟩
    have HOK := Lib.hid hok
    have VO := Lib.hid (fun (X : Int) (W : World) (h : pn.In W W.heap.size) => (show Calls Try.prog 39 #[digV C, LV 4 pn, .int .i64 X, .int .i64 0] W (VpPost (votesL C 4 N X 0 8) W) by
      rw [← hln]; exact votes_any C HC.out 4 (by decide) (by decide) pn (by rw [hln]; exact (right_len hr4).2.2.2.1) X 0 W h))
    have CH := Lib.hid (fun (X : Int) (q : Vp) (W : World) (h1 : pl.In W W.heap.size) (h2 : pn.In W W.heap.size) (hq : q.In W W.heap.size) (hl : q.l = votesL C 4 N X 0 8) (hn : cntN C 4 N (votesL C 4 N X 0 8) (mem8 b 8) = cR (tB who b) 8) => (show Calls Try.prog 43 #[digV C, LV 3 pl, LV 4 pn, q.V] W fun e w' => e = .returned (.tuple #[.int .i64 (cR (tB who b) 8 : Nat), .bool okB]) ∧ Below W.heap.size W w' by
      have hq8 : q.l.length ≤ 9223372036854775807 := by
        have := votesL_len C 4 N X 0 8; rw [hl]; omega
      have h := check_any C HC.out 3 4 (by decide) (by decide) pl pn q W h1 h2 hq hq8
      rw [HLL.out, hln, hl] at h
      unfold chkN chkB at h
      rw [hr3, hr4, hn] at h
      rw [hok]; exact h))
    have MJ := Lib.hid (fun (W : World) (h1 : pl.In W W.heap.size) => (show Calls Try.prog 34 #[LV 3 pl] W fun e w' => e = .returned (.int .i64 (majI 3 (mem8 b 8))) ∧ Below W.heap.size W w' by
      have h := maj_any 3 pl W h1; rw [HLL.out] at h; exact h))
    have HS := Lib.hid (fun (i : Nat) (W : World) (h1 : pl.In W W.heap.size) => (show Calls Try.prog 36 #[LV 3 pl, .int .i64 (i : Int)] W fun e w' => e = .returned (.bool (hasB 3 (mem8 b 8) i)) ∧ Below W.heap.size W w' by
      have h := has_any 3 pl i W h1; rw [HLL.out] at h; exact h))
    have HC12 := Lib.hid (cnt_all C 4 N who b hr3)
    have HC13 := Lib.hid (cnt_right C 4 N who b hr3)
    have E255 := Lib.hid (and255 who)
    clear hok hcc hc hv hr3 hr4 hN hln
    go_wp2_with (first | (with_reducible refine stop_load45 ?_) | (with_reducible refine stop_store45 ?_))
    (with_reducible refine ⟨?_⟩); (with_reducible refine at_any ?_ ?_); (focus go_simp); refine fun K0 hK => wp_st45 _ _ w4.heap.size 4 0 pn nilP rfl rfl rfl (Bk.new rfl _ _) (fun w5 hd ho => hK _ _ ?_)
    replace D0 := Lib.hid (DB.ext D0.out ho.ex)
    replace A9 := Lib.hid (LB.ext A9.out ho.ex)
    replace PL := Lib.hid (Pt.In.ext PL.out ho.ex)
    replace BW := Lib.hid (Ex.trans BW.out ho.ex)
    replace PN := Lib.hid ((PN.ext ((Below.refl _ _).alloc (Nat.le_refl _) _)).st (n := 0) (q := nilP) ho (Bk.new rfl _ _))
    generalize w4.heap.size = g10 at hd ⊢
    have A10 := Lib.hid hd
    clear hK ho hd
    go_wp2_with (first | (with_reducible refine stop_load45 ?_) | (with_reducible refine stop_store45 ?_))
    have Z0 : cR (tB who b) 0 = 0 := rfl
    have Z1 : rR (tB who b) 0 = 0 := rfl
    go_loopw [12, 13, 14] (fun c r i wr => ∃ (j : Nat), j ≤ 8 ∧ i = .int .i64 j ∧ c = .int .i64 (cR (tB who b) j : Nat) ∧ r = .int .i64 (rR (tB who b) j : Nat) ∧ Hid (DB wr B C) ∧ Hid (LB wr g9 3 pl) ∧ Hid (LB wr g10 4 pn) ∧ Hid (pl.In wr wr.heap.size) ∧ Hid (pn.In wr wr.heap.size) ∧ Hid (Ex w wr)) (fun _ _ i _ => 8 - (intOf i).toNat)
    case atStart => exact ⟨0, by omega, rfl, rfl, rfl, D0, A9, A10, PL, PN, BW⟩
    case round =>
      clear D0 A9 A10 PL PN BW Z0 Z1
      obtain ⟨j, hj, rfl, rfl, rfl, D0, A9, A10, PL, PN, BW⟩ := hrel
      by_cases hlt : j < 8
      · have q0 : (0 : Int) ≤ (j : Int) := by omega
        have q1 : (j : Int) < 8 := by omega
        have cl := cR_le (tB who b) j
        have CS := Lib.hid (cR_succ (tB who b) j)
        have RS := Lib.hid (show rR (tB who b) (j + 1) = if tB who b j = true then rR (tB who b) j ||| 2 ^ j else rR (tB who b) j from rfl)
        have rl := rR_lt (tB who b) j hj
        generalize cR (tB who b) j = cj at *
        generalize rR (tB who b) j = rj at *
        by_cases b1 : bits .and .i64 (who / 2 ^ j) 1 = 1
        · have TB := Lib.hid (show tB who b j = hasB 3 (mem8 b 8) j by unfold tB; rw [decide_eq_true (show bitI who j = 1 from b1)]; rfl)
          rw [TB.out] at CS RS
          have HS1 := Lib.hid (HS.out j wr PL.out)
          generalize hasB 3 (mem8 b 8) j = yes at *
          clear TB
          go_wp2_with (first | (with_reducible refine stop_load45 ?_) | (with_reducible refine stop_store45 ?_))
          (with_reducible refine ⟨?_⟩); (with_reducible refine at_any ?_ ?_); (focus go_simp); refine fun K0 hK => wp_ld45 _ g9 3 pl rfl rfl A9.out (hK _ _ ?_)
          clear hK
          go_wp2_with (first | (with_reducible refine stop_load45 ?_) | (with_reducible refine stop_store45 ?_))
          refine HS1.out.mono ?_
          rintro e w6 ⟨rfl, xr⟩
          replace D0 := Lib.hid (DB.ext D0.out xr)
          replace A9 := Lib.hid (LB.ext A9.out xr)
          replace A10 := Lib.hid (LB.ext A10.out xr)
          replace PL := Lib.hid (Pt.In.ext PL.out xr)
          replace PN := Lib.hid (Pt.In.ext PN.out xr)
          replace BW := Lib.hid (Ex.trans BW.out xr)
          clear xr HS1
          cases yes
          · go_wp2_with (first | (with_reducible refine stop_load45 ?_) | (with_reducible refine stop_store45 ?_))
            go_roundw
            case rel => exact ⟨j + 1, by omega, by go_num, by rw [CS.out]; rfl, by rw [RS.out]; rfl, D0, A9, A10, PL, PN, BW⟩
            case measure => simp [intOf]; omega
          · have h2 : 2 ^ j < 2 ^ 8 := Nat.pow_lt_pow_right (by decide) (by omega)
            have O7 := Lib.hid (or_nat rj (2 ^ j) rl h2)
            have W7 := Lib.hid (show wrap64 ((2 : Int) ^ j) = ((2 ^ j : Nat) : Int) by
              have h3 : ((2 : Int) ^ j) = ((2 ^ j : Nat) : Int) := by norm_cast
              rw [h3]
              generalize 2 ^ j = z at h2
              exact IntWalk.wrap64_in _ ⟨by omega, by omega⟩)
            clear rl h2
            go_wp2_with (first | (with_reducible refine stop_load45 ?_) | (with_reducible refine stop_store45 ?_))
            go_roundw
            case rel => exact ⟨j + 1, by omega, by go_num, by rw [CS.out]; simp only [if_true]; go_num, by rw [RS.out]; simp only [if_true]; rw [← O7.out, W7.out], D0, A9, A10, PL, PN, BW⟩
            case measure => simp [intOf]; omega
        · have TB := Lib.hid (show tB who b j = false by unfold tB; rw [decide_eq_false (show ¬ bitI who j = 1 from b1)]; rfl)
          rw [TB.out] at CS RS
          clear TB
          go_wp2_with (first | (with_reducible refine stop_load45 ?_) | (with_reducible refine stop_store45 ?_))
          (with_reducible refine ⟨?_⟩); (with_reducible refine at_not ?_ ?_); (focus go_simp)
          go_wp2_with (first | (with_reducible refine stop_load45 ?_) | (with_reducible refine stop_store45 ?_))
          go_roundw
          case rel => exact ⟨j + 1, by omega, by go_num, by rw [CS.out]; rfl, by rw [RS.out]; rfl, D0, A9, A10, PL, PN, BW⟩
          case measure => simp [intOf]; omega
      · obtain rfl : j = 8 := by omega
        go_wp2_with (first | (with_reducible refine stop_load45 ?_) | (with_reducible refine stop_store45 ?_))
        obtain ⟨T, hT⟩ : ∃ T : List Av, T = [.is (digV C), .is (LV 3 pl), .is (LV 4 pn), .is (digV C), .is (LV 4 pn), .is (.int .i64 who), .is (.int .i64 (who % 256)), .vp (votesL C 4 N (who % 256) 0 8), .is (.tuple #[.int .i64 (cR (tB who b) 8 : Nat), .bool okB]), .is (.tuple #[.int .i64 (cR (tB who b) 8 : Nat), .bool okB]), .is (.int .i64 (cR (tB who b) 8 : Nat)), .is (.bool okB), .is (.int .i64 (cR (tB who b) 8 : Nat)), .is (.bool okB)] := ⟨_, rfl⟩
        refine wp_region_gen (JM wr T) (by kernel_rfl) (by kernel_rfl) (by kernel_rfl) (fitB_spec (by kernel_rfl)) (fun listed f h => JM.start _ listed f h) ?_ ?_
        · intro i o ho
          have hi : i < 14 := (Array.getElem?_eq_some_iff.1 ho).1
          have hi' : i = 0 ∨ i = 1 ∨ i = 2 ∨ i = 3 ∨ i = 4 ∨ i = 5 ∨ i = 6 ∨ i = 7 ∨ i = 8 ∨ i = 9 ∨ i = 10 ∨ i = 11 ∨ i = 12 ∨ i = 13 := by omega
          clear hi
          rcases hi' with rfl | rfl | rfl | rfl | rfl | rfl | rfl | rfl | rfl | rfl | rfl | rfl | rfl | rfl
          all_goals (simp only [List.getElem?_toArray, List.getElem?_cons_zero, List.getElem?_cons_succ, Option.some.injEq] at ho; subst ho; intro listed f a w6 hJ hsz hls hun hdep hout hlat)
          · rw [if_pos (by rfl)]
            intro K hK
            have q4 := hout 4 (outB_spec (by kernel_rfl))
            exact Sm.wp_ld _ B C rfl q4 (DB.ext D0.out hJ.ext) (hK _ _ (hJ.next (Ex.refl _) (by rw [hT]; rfl)))
          · rw [if_pos (by rfl)]
            intro K hK
            have q9 := hout 9 (outB_spec (by kernel_rfl))
            exact wp_ld45 _ g9 3 pl rfl q9 (LB.ext A9.out hJ.ext) (hK _ _ (hJ.next (Ex.refl _) (by rw [hT]; rfl)))
          · rw [if_pos (by rfl)]
            intro K hK
            have q10 := hout 10 (outB_spec (by kernel_rfl))
            exact wp_ld45 _ g10 4 pn rfl q10 (LB.ext A10.out hJ.ext) (hK _ _ (hJ.next (Ex.refl _) (by rw [hT]; rfl)))
          · rw [if_pos (by rfl)]
            intro K hK
            have q4 := hout 4 (outB_spec (by kernel_rfl))
            exact Sm.wp_ld _ B C rfl q4 (DB.ext D0.out hJ.ext) (hK _ _ (hJ.next (Ex.refl _) (by rw [hT]; rfl)))
          · rw [if_pos (by rfl)]
            intro K hK
            have q10 := hout 10 (outB_spec (by kernel_rfl))
            exact wp_ld45 _ g10 4 pn rfl q10 (LB.ext A10.out hJ.ext) (hK _ _ (hJ.next (Ex.refl _) (by rw [hT]; rfl)))
          · rw [if_pos (by rfl)]
            intro K hK
            have q2 := hout 2 (outB_spec (by kernel_rfl))
            refine wp_mv _ rfl (hK _ _ ?_)
            rw [show a.eval (.tmp 2) = .int .i64 who from q2]
            exact hJ.next (Ex.refl _) (by rw [hT]; rfl)
          · rw [if_pos (by rfl)]
            intro K hK
            have q60 := (hdep ⟨5, .data⟩ (by simp) rfl).2 _ rfl _ rfl
            have h60 := hJ.vals 5 (hdep ⟨5, .data⟩ (by simp) rfl).1
            rw [hT] at h60
            rw [show f 5 = .int .i64 who from h60] at q60
            clear h60
            rw [Array.getD_eq_getD_getElem?] at q60
            clear hsz hdep hout hlat
            have e := E255.out
            go_simp
            exact hK _ _ (hJ.next (Ex.refl _) (by rw [hT]; rfl))
          · rw [if_pos (by rfl)]
            intro K hK
            have q58 := (hdep ⟨3, .data⟩ (by simp) rfl).2 _ rfl _ rfl
            have h58 := hJ.vals 3 (hdep ⟨3, .data⟩ (by simp) rfl).1
            rw [hT] at h58
            rw [show f 3 = digV C from h58] at q58
            clear h58
            have q59 := (hdep ⟨4, .data⟩ (by simp) rfl).2 _ rfl _ rfl
            have h59 := hJ.vals 4 (hdep ⟨4, .data⟩ (by simp) rfl).1
            rw [hT] at h59
            rw [show f 4 = LV 4 pn from h59] at q59
            clear h59
            have q61 := (hdep ⟨6, .data⟩ (by simp) rfl).2 _ rfl _ rfl
            have h61 := hJ.vals 6 (hdep ⟨6, .data⟩ (by simp) rfl).1
            rw [hT] at h61
            rw [show f 6 = .int .i64 (who % 256) from h61] at q61
            clear h61
            rw [Array.getD_eq_getD_getElem?] at q58
            rw [Array.getD_eq_getD_getElem?] at q59
            rw [Array.getD_eq_getD_getElem?] at q61
            have cm := Lib.hid (VO.out (who % 256) w6 (Pt.In.ext PN.out hJ.ext))
            unfold LV at cm q59
            clear hsz hdep hout hlat
            go_simp
            refine cm.out.mono ?_
            rintro e w3 ⟨q, rfl, lq, iq, xq⟩
            exact hK _ _ (hJ.next xq (by rw [hT]; exact ⟨q, rfl, lq, iq⟩))
          · rw [if_pos (by rfl)]
            intro K hK
            have q55 := (hdep ⟨0, .data⟩ (by simp) rfl).2 _ rfl _ rfl
            have h55 := hJ.vals 0 (hdep ⟨0, .data⟩ (by simp) rfl).1
            rw [hT] at h55
            rw [show f 0 = digV C from h55] at q55
            clear h55
            have q56 := (hdep ⟨1, .data⟩ (by simp) rfl).2 _ rfl _ rfl
            have h56 := hJ.vals 1 (hdep ⟨1, .data⟩ (by simp) rfl).1
            rw [hT] at h56
            rw [show f 1 = LV 3 pl from h56] at q56
            clear h56
            have q57 := (hdep ⟨2, .data⟩ (by simp) rfl).2 _ rfl _ rfl
            have h57 := hJ.vals 2 (hdep ⟨2, .data⟩ (by simp) rfl).1
            rw [hT] at h57
            rw [show f 2 = LV 4 pn from h57] at q57
            clear h57
            have q62 := (hdep ⟨7, .data⟩ (by simp) rfl).2 _ rfl _ rfl
            have h62 := hJ.vals 7 (hdep ⟨7, .data⟩ (by simp) rfl).1
            rw [hT] at h62
            obtain ⟨p62, e62, l62, i62⟩ := h62
            rw [e62] at q62
            clear e62
            rw [Array.getD_eq_getD_getElem?] at q55
            rw [Array.getD_eq_getD_getElem?] at q56
            rw [Array.getD_eq_getD_getElem?] at q57
            rw [Array.getD_eq_getD_getElem?] at q62
            have cm := Lib.hid (CH.out (who % 256) p62 w6 (Pt.In.ext PL.out hJ.ext) (Pt.In.ext PN.out hJ.ext) i62 l62 HC12.out)
            unfold LV at cm q56 q57
            unfold Vp.V at cm q62
            clear l62 i62
            generalize p62.l.length = n62 at cm q62
            clear hsz hdep hout hlat
            go_simp
            refine cm.out.mono ?_
            rintro e w3 ⟨rfl, xq⟩
            exact hK _ _ (hJ.next xq (by rw [hT]; rfl))
          · rw [if_pos (by rfl)]
            intro K hK
            have q63 := (hdep ⟨8, .data⟩ (by simp) rfl).2 _ rfl _ rfl
            have h63 := hJ.vals 8 (hdep ⟨8, .data⟩ (by simp) rfl).1
            rw [hT] at h63
            rw [show f 8 = .tuple #[.int .i64 (cR (tB who b) 8 : Nat), .bool okB] from h63] at q63
            clear h63
            refine wp_mv _ rfl (hK _ _ ?_)
            rw [show a.eval (.tmp 63) = .tuple #[.int .i64 (cR (tB who b) 8 : Nat), .bool okB] from q63]
            exact hJ.next (Ex.refl _) (by rw [hT]; rfl)
          · rw [if_pos (by rfl)]
            intro K hK
            have q54 := (hdep ⟨9, .data⟩ (by simp) rfl).2 _ rfl _ rfl
            have h54 := hJ.vals 9 (hdep ⟨9, .data⟩ (by simp) rfl).1
            rw [hT] at h54
            rw [show f 9 = .tuple #[.int .i64 (cR (tB who b) 8 : Nat), .bool okB] from h54] at q54
            clear h54
            rw [Array.getD_eq_getD_getElem?] at q54
            clear hsz hdep hout hlat
            go_simp
            exact hK _ _ (hJ.next (Ex.refl _) (by rw [hT]; rfl))
          · rw [if_pos (by rfl)]
            intro K hK
            have q54 := (hdep ⟨9, .data⟩ (by simp) rfl).2 _ rfl _ rfl
            have h54 := hJ.vals 9 (hdep ⟨9, .data⟩ (by simp) rfl).1
            rw [hT] at h54
            rw [show f 9 = .tuple #[.int .i64 (cR (tB who b) 8 : Nat), .bool okB] from h54] at q54
            clear h54
            rw [Array.getD_eq_getD_getElem?] at q54
            clear hsz hdep hout hlat
            go_simp
            exact hK _ _ (hJ.next (Ex.refl _) (by rw [hT]; rfl))
          · rw [if_pos (by rfl)]
            intro K hK
            have q64 := (hdep ⟨10, .data⟩ (by simp) rfl).2 _ rfl _ rfl
            have h64 := hJ.vals 10 (hdep ⟨10, .data⟩ (by simp) rfl).1
            rw [hT] at h64
            rw [show f 10 = .int .i64 (cR (tB who b) 8 : Nat) from h64] at q64
            clear h64
            rw [Array.getD_eq_getD_getElem?] at q64
            clear hsz hdep hout hlat
            go_simp
            exact hK _ _ (hJ.next (Ex.refl _) (by rw [hT]; rfl))
          · rw [if_pos (by rfl)]
            intro K hK
            have q65 := (hdep ⟨11, .data⟩ (by simp) rfl).2 _ rfl _ rfl
            have h65 := hJ.vals 11 (hdep ⟨11, .data⟩ (by simp) rfl).1
            rw [hT] at h65
            rw [show f 11 = .bool okB from h65] at q65
            clear h65
            rw [Array.getD_eq_getD_getElem?] at q65
            clear hsz hdep hout hlat
            go_simp
            exact hK _ _ (hJ.next (Ex.refl _) (by rw [hT]; rfl))
        · intro listed f w6 hall hJ
          have f0 : f 0 = digV C := by
            have h := hJ.vals 0 (hall 0 (by simp))
            rw [hT] at h; exact h
          have f1 : f 1 = LV 3 pl := by
            have h := hJ.vals 1 (hall 1 (by simp))
            rw [hT] at h; exact h
          have f2 : f 2 = LV 4 pn := by
            have h := hJ.vals 2 (hall 2 (by simp))
            rw [hT] at h; exact h
          have f3 : f 3 = digV C := by
            have h := hJ.vals 3 (hall 3 (by simp))
            rw [hT] at h; exact h
          have f4 : f 4 = LV 4 pn := by
            have h := hJ.vals 4 (hall 4 (by simp))
            rw [hT] at h; exact h
          have f5 : f 5 = .int .i64 who := by
            have h := hJ.vals 5 (hall 5 (by simp))
            rw [hT] at h; exact h
          have f6 : f 6 = .int .i64 (who % 256) := by
            have h := hJ.vals 6 (hall 6 (by simp))
            rw [hT] at h; exact h
          have f8 : f 8 = .tuple #[.int .i64 (cR (tB who b) 8 : Nat), .bool okB] := by
            have h := hJ.vals 8 (hall 8 (by simp))
            rw [hT] at h; exact h
          have f9 : f 9 = .tuple #[.int .i64 (cR (tB who b) 8 : Nat), .bool okB] := by
            have h := hJ.vals 9 (hall 9 (by simp))
            rw [hT] at h; exact h
          have f10 : f 10 = .int .i64 (cR (tB who b) 8 : Nat) := by
            have h := hJ.vals 10 (hall 10 (by simp))
            rw [hT] at h; exact h
          have f11 : f 11 = .bool okB := by
            have h := hJ.vals 11 (hall 11 (by simp))
            rw [hT] at h; exact h
          have f12 : f 12 = .int .i64 (cR (tB who b) 8 : Nat) := by
            have h := hJ.vals 12 (hall 12 (by simp))
            rw [hT] at h; exact h
          have f13 : f 13 = .bool okB := by
            have h := hJ.vals 13 (hall 13 (by simp))
            rw [hT] at h; exact h
          have xw := hJ.ext
          simp only [putAll, Act.put, List.setIfInBounds_toArray, List.set_cons_zero, List.set_cons_succ, Nat.zero_add, Nat.reduceAdd]
          rw [f0, f1, f2, f3, f4, f5, f6, f8, f9, f10, f11, f12, f13]
          clear f0 f1 f2 f3 f4 f5 f6 f8 f9 f10 f11 f12 f13 hJ hall hT
          generalize f 7 = y7
          replace D0 := Lib.hid (DB.ext D0.out xw)
          replace A9 := Lib.hid (LB.ext A9.out xw)
          replace A10 := Lib.hid (LB.ext A10.out xw)
          replace PL := Lib.hid (Pt.In.ext PL.out xw)
          replace PN := Lib.hid (Pt.In.ext PN.out xw)
          replace BW := Lib.hid (Ex.trans BW.out xw)
          clear xw
          go_wp2_with (first | (with_reducible refine stop_load45 ?_) | (with_reducible refine stop_store45 ?_))
          obtain ⟨T, hT⟩ : ∃ T : List Av, T = [.is (digV C), .is (LV 3 pl), .is (LV 4 pn), .is (digV C), .is (LV 4 pn), .is (.int .i64 (rR (tB who b) 8 : Nat)), .vp (votesL C 4 N (rR (tB who b) 8 : Nat) 0 8), .is (.tuple #[.int .i64 (cR (tB who b) 8 : Nat), .bool okB]), .is (.tuple #[.int .i64 (cR (tB who b) 8 : Nat), .bool okB]), .is (.int .i64 (cR (tB who b) 8 : Nat)), .is (.bool okB), .is (.int .i64 (cR (tB who b) 8 : Nat)), .is (.bool okB)] := ⟨_, rfl⟩
          refine wp_region_gen (JM w6 T) (by kernel_rfl) (by kernel_rfl) (by kernel_rfl) (fitB_spec (by kernel_rfl)) (fun listed f h => JM.start _ listed f h) ?_ ?_
          · intro i o ho
            have hi : i < 13 := (Array.getElem?_eq_some_iff.1 ho).1
            have hi' : i = 0 ∨ i = 1 ∨ i = 2 ∨ i = 3 ∨ i = 4 ∨ i = 5 ∨ i = 6 ∨ i = 7 ∨ i = 8 ∨ i = 9 ∨ i = 10 ∨ i = 11 ∨ i = 12 := by omega
            clear hi
            rcases hi' with rfl | rfl | rfl | rfl | rfl | rfl | rfl | rfl | rfl | rfl | rfl | rfl | rfl
            all_goals (simp only [List.getElem?_toArray, List.getElem?_cons_zero, List.getElem?_cons_succ, Option.some.injEq] at ho; subst ho; intro listed f a w7 hJ hsz hls hun hdep hout hlat)
            · rw [if_pos (by rfl)]
              intro K hK
              have q4 := hout 4 (outB_spec (by kernel_rfl))
              exact Sm.wp_ld _ B C rfl q4 (DB.ext D0.out hJ.ext) (hK _ _ (hJ.next (Ex.refl _) (by rw [hT]; rfl)))
            · rw [if_pos (by rfl)]
              intro K hK
              have q9 := hout 9 (outB_spec (by kernel_rfl))
              exact wp_ld45 _ g9 3 pl rfl q9 (LB.ext A9.out hJ.ext) (hK _ _ (hJ.next (Ex.refl _) (by rw [hT]; rfl)))
            · rw [if_pos (by rfl)]
              intro K hK
              have q10 := hout 10 (outB_spec (by kernel_rfl))
              exact wp_ld45 _ g10 4 pn rfl q10 (LB.ext A10.out hJ.ext) (hK _ _ (hJ.next (Ex.refl _) (by rw [hT]; rfl)))
            · rw [if_pos (by rfl)]
              intro K hK
              have q4 := hout 4 (outB_spec (by kernel_rfl))
              exact Sm.wp_ld _ B C rfl q4 (DB.ext D0.out hJ.ext) (hK _ _ (hJ.next (Ex.refl _) (by rw [hT]; rfl)))
            · rw [if_pos (by rfl)]
              intro K hK
              have q10 := hout 10 (outB_spec (by kernel_rfl))
              exact wp_ld45 _ g10 4 pn rfl q10 (LB.ext A10.out hJ.ext) (hK _ _ (hJ.next (Ex.refl _) (by rw [hT]; rfl)))
            · rw [if_pos (by rfl)]
              intro K hK
              have q13 := hout 13 (outB_spec (by kernel_rfl))
              refine wp_mv _ rfl (hK _ _ ?_)
              rw [show a.eval (.tmp 13) = .int .i64 (rR (tB who b) 8 : Nat) from q13]
              exact hJ.next (Ex.refl _) (by rw [hT]; rfl)
            · rw [if_pos (by rfl)]
              intro K hK
              have q70 := (hdep ⟨3, .data⟩ (by simp) rfl).2 _ rfl _ rfl
              have h70 := hJ.vals 3 (hdep ⟨3, .data⟩ (by simp) rfl).1
              rw [hT] at h70
              rw [show f 3 = digV C from h70] at q70
              clear h70
              have q71 := (hdep ⟨4, .data⟩ (by simp) rfl).2 _ rfl _ rfl
              have h71 := hJ.vals 4 (hdep ⟨4, .data⟩ (by simp) rfl).1
              rw [hT] at h71
              rw [show f 4 = LV 4 pn from h71] at q71
              clear h71
              have q72 := (hdep ⟨5, .data⟩ (by simp) rfl).2 _ rfl _ rfl
              have h72 := hJ.vals 5 (hdep ⟨5, .data⟩ (by simp) rfl).1
              rw [hT] at h72
              rw [show f 5 = .int .i64 (rR (tB who b) 8 : Nat) from h72] at q72
              clear h72
              rw [Array.getD_eq_getD_getElem?] at q70
              rw [Array.getD_eq_getD_getElem?] at q71
              rw [Array.getD_eq_getD_getElem?] at q72
              have cm := Lib.hid (VO.out (rR (tB who b) 8 : Nat) w7 (Pt.In.ext PN.out hJ.ext))
              unfold LV at cm q71
              clear hsz hdep hout hlat
              go_simp
              refine cm.out.mono ?_
              rintro e w3 ⟨q, rfl, lq, iq, xq⟩
              exact hK _ _ (hJ.next xq (by rw [hT]; exact ⟨q, rfl, lq, iq⟩))
            · rw [if_pos (by rfl)]
              intro K hK
              have q67 := (hdep ⟨0, .data⟩ (by simp) rfl).2 _ rfl _ rfl
              have h67 := hJ.vals 0 (hdep ⟨0, .data⟩ (by simp) rfl).1
              rw [hT] at h67
              rw [show f 0 = digV C from h67] at q67
              clear h67
              have q68 := (hdep ⟨1, .data⟩ (by simp) rfl).2 _ rfl _ rfl
              have h68 := hJ.vals 1 (hdep ⟨1, .data⟩ (by simp) rfl).1
              rw [hT] at h68
              rw [show f 1 = LV 3 pl from h68] at q68
              clear h68
              have q69 := (hdep ⟨2, .data⟩ (by simp) rfl).2 _ rfl _ rfl
              have h69 := hJ.vals 2 (hdep ⟨2, .data⟩ (by simp) rfl).1
              rw [hT] at h69
              rw [show f 2 = LV 4 pn from h69] at q69
              clear h69
              have q73 := (hdep ⟨6, .data⟩ (by simp) rfl).2 _ rfl _ rfl
              have h73 := hJ.vals 6 (hdep ⟨6, .data⟩ (by simp) rfl).1
              rw [hT] at h73
              obtain ⟨p73, e73, l73, i73⟩ := h73
              rw [e73] at q73
              clear e73
              rw [Array.getD_eq_getD_getElem?] at q67
              rw [Array.getD_eq_getD_getElem?] at q68
              rw [Array.getD_eq_getD_getElem?] at q69
              rw [Array.getD_eq_getD_getElem?] at q73
              have cm := Lib.hid (CH.out (rR (tB who b) 8 : Nat) p73 w7 (Pt.In.ext PL.out hJ.ext) (Pt.In.ext PN.out hJ.ext) i73 l73 HC13.out)
              unfold LV at cm q68 q69
              unfold Vp.V at cm q73
              clear l73 i73
              generalize p73.l.length = n73 at cm q73
              clear hsz hdep hout hlat
              go_simp
              refine cm.out.mono ?_
              rintro e w3 ⟨rfl, xq⟩
              exact hK _ _ (hJ.next xq (by rw [hT]; rfl))
            · rw [if_pos (by rfl)]
              intro K hK
              have q74 := (hdep ⟨7, .data⟩ (by simp) rfl).2 _ rfl _ rfl
              have h74 := hJ.vals 7 (hdep ⟨7, .data⟩ (by simp) rfl).1
              rw [hT] at h74
              rw [show f 7 = .tuple #[.int .i64 (cR (tB who b) 8 : Nat), .bool okB] from h74] at q74
              clear h74
              refine wp_mv _ rfl (hK _ _ ?_)
              rw [show a.eval (.tmp 74) = .tuple #[.int .i64 (cR (tB who b) 8 : Nat), .bool okB] from q74]
              exact hJ.next (Ex.refl _) (by rw [hT]; rfl)
            · rw [if_pos (by rfl)]
              intro K hK
              have q66 := (hdep ⟨8, .data⟩ (by simp) rfl).2 _ rfl _ rfl
              have h66 := hJ.vals 8 (hdep ⟨8, .data⟩ (by simp) rfl).1
              rw [hT] at h66
              rw [show f 8 = .tuple #[.int .i64 (cR (tB who b) 8 : Nat), .bool okB] from h66] at q66
              clear h66
              rw [Array.getD_eq_getD_getElem?] at q66
              clear hsz hdep hout hlat
              go_simp
              exact hK _ _ (hJ.next (Ex.refl _) (by rw [hT]; rfl))
            · rw [if_pos (by rfl)]
              intro K hK
              have q66 := (hdep ⟨8, .data⟩ (by simp) rfl).2 _ rfl _ rfl
              have h66 := hJ.vals 8 (hdep ⟨8, .data⟩ (by simp) rfl).1
              rw [hT] at h66
              rw [show f 8 = .tuple #[.int .i64 (cR (tB who b) 8 : Nat), .bool okB] from h66] at q66
              clear h66
              rw [Array.getD_eq_getD_getElem?] at q66
              clear hsz hdep hout hlat
              go_simp
              exact hK _ _ (hJ.next (Ex.refl _) (by rw [hT]; rfl))
            · rw [if_pos (by rfl)]
              intro K hK
              have q75 := (hdep ⟨9, .data⟩ (by simp) rfl).2 _ rfl _ rfl
              have h75 := hJ.vals 9 (hdep ⟨9, .data⟩ (by simp) rfl).1
              rw [hT] at h75
              rw [show f 9 = .int .i64 (cR (tB who b) 8 : Nat) from h75] at q75
              clear h75
              rw [Array.getD_eq_getD_getElem?] at q75
              clear hsz hdep hout hlat
              go_simp
              exact hK _ _ (hJ.next (Ex.refl _) (by rw [hT]; rfl))
            · rw [if_pos (by rfl)]
              intro K hK
              have q76 := (hdep ⟨10, .data⟩ (by simp) rfl).2 _ rfl _ rfl
              have h76 := hJ.vals 10 (hdep ⟨10, .data⟩ (by simp) rfl).1
              rw [hT] at h76
              rw [show f 10 = .bool okB from h76] at q76
              clear h76
              rw [Array.getD_eq_getD_getElem?] at q76
              clear hsz hdep hout hlat
              go_simp
              exact hK _ _ (hJ.next (Ex.refl _) (by rw [hT]; rfl))
          · intro listed f w7 hall hJ
            have f0 : f 0 = digV C := by
              have h := hJ.vals 0 (hall 0 (by simp))
              rw [hT] at h; exact h
            have f1 : f 1 = LV 3 pl := by
              have h := hJ.vals 1 (hall 1 (by simp))
              rw [hT] at h; exact h
            have f2 : f 2 = LV 4 pn := by
              have h := hJ.vals 2 (hall 2 (by simp))
              rw [hT] at h; exact h
            have f3 : f 3 = digV C := by
              have h := hJ.vals 3 (hall 3 (by simp))
              rw [hT] at h; exact h
            have f4 : f 4 = LV 4 pn := by
              have h := hJ.vals 4 (hall 4 (by simp))
              rw [hT] at h; exact h
            have f5 : f 5 = .int .i64 (rR (tB who b) 8 : Nat) := by
              have h := hJ.vals 5 (hall 5 (by simp))
              rw [hT] at h; exact h
            have f7 : f 7 = .tuple #[.int .i64 (cR (tB who b) 8 : Nat), .bool okB] := by
              have h := hJ.vals 7 (hall 7 (by simp))
              rw [hT] at h; exact h
            have f8 : f 8 = .tuple #[.int .i64 (cR (tB who b) 8 : Nat), .bool okB] := by
              have h := hJ.vals 8 (hall 8 (by simp))
              rw [hT] at h; exact h
            have f9 : f 9 = .int .i64 (cR (tB who b) 8 : Nat) := by
              have h := hJ.vals 9 (hall 9 (by simp))
              rw [hT] at h; exact h
            have f10 : f 10 = .bool okB := by
              have h := hJ.vals 10 (hall 10 (by simp))
              rw [hT] at h; exact h
            have f11 : f 11 = .int .i64 (cR (tB who b) 8 : Nat) := by
              have h := hJ.vals 11 (hall 11 (by simp))
              rw [hT] at h; exact h
            have f12 : f 12 = .bool okB := by
              have h := hJ.vals 12 (hall 12 (by simp))
              rw [hT] at h; exact h
            have xw := hJ.ext
            simp only [putAll, Act.put, List.setIfInBounds_toArray, List.set_cons_zero, List.set_cons_succ, Nat.zero_add, Nat.reduceAdd]
            rw [f0, f1, f2, f3, f4, f5, f7, f8, f9, f10, f11, f12]
            clear f0 f1 f2 f3 f4 f5 f7 f8 f9 f10 f11 f12 hJ hall hT
            generalize f 6 = y6
            replace D0 := Lib.hid (DB.ext D0.out xw)
            replace A9 := Lib.hid (LB.ext A9.out xw)
            replace A10 := Lib.hid (LB.ext A10.out xw)
            replace PL := Lib.hid (Pt.In.ext PL.out xw)
            replace PN := Lib.hid (Pt.In.ext PN.out xw)
            replace BW := Lib.hid (Ex.trans BW.out xw)
            clear xw
            generalize cR (tB who b) 8 = cn at *
            go_wp2_with (first | (with_reducible refine stop_load45 ?_) | (with_reducible refine stop_store45 ?_))
            (with_reducible refine ⟨?_⟩); (with_reducible refine at_any ?_ ?_); (focus go_simp); refine fun K0 hK => wp_ld45 _ g9 3 pl rfl rfl A9.out (hK _ _ ?_)
            clear hK
            have MJ1 := Lib.hid (MJ.out w7 PL.out)
            go_wp2_with (first | (with_reducible refine stop_load45 ?_) | (with_reducible refine stop_store45 ?_))
            refine MJ1.out.mono ?_
            rintro e w8 ⟨rfl, xr⟩
            replace BW := Lib.hid (Ex.trans BW.out xr)
            have hE := HOK.out.symm
            clear xr MJ1 MJ CH VO HOK HS HC12 HC13
            generalize majI 3 (mem8 b 8) = mj at *
            go_wp2_with (first | (with_reducible refine stop_load45 ?_) | (with_reducible refine stop_store45 ?_))
            refine (KN.out _).mono ?_
            rintro e w9 ⟨rfl, xr⟩
            replace BW := Lib.hid (Ex.trans BW.out xr)
            clear xr KN
            go_wp2_with (first | (with_reducible refine stop_load45 ?_) | (with_reducible refine stop_store45 ?_))
            go_ret
            exact ⟨rfl, BW.out⟩
end Go.Proofs.Ytgoiidpcdifojaa
