/- walks: the law RosterMajorities -/
import Derived.Test.YtgoiidpcdifojaaRoL
import Derived.Test.YtgoiidpcdifojaaFlV
namespace Go.Proofs.Ytgoiidpcdifojaa
open Go.RowKit
theorem or_zero {a c : Nat} (h : a ||| c = 0) : a = 0 := by
  apply Nat.eq_of_testBit_eq
  intro i
  have h1 := congrArg (fun n => n.testBit i) h
  simp only [Nat.testBit_or, Nat.zero_testBit] at h1 ⊢
  cases ha : a.testBit i <;> simp_all
set_option maxHeartbeats 8000000 in
set_option maxRecDepth 100000 in
theorem maj_law (x0 x1 x2 x3 : Int) (w : World) : Calls Try.prog 8 #[.int .i64 x0, .int .i64 x1, .int .i64 x2, .int .i64 x3] w fun e w' => e = .returned (.bool true) ∧ Below w.heap.size w w' := by
  obtain ⟨n, hn, _, e255⟩ := and_mask x0 255 (by decide)
  obtain ⟨k, hk, hk7, e7⟩ := and_mask x1 7 (by decide)
  have hk8 : k < 8 := by have := Nat.and_le_right (n := k) (m := 7); omega
  have e1 := or_nat n 1 hn (by decide)
  have e255 : bits .and .i64 x0 255 = (n : Int) := e255
  have e7 : bits .and .i64 x1 7 = (k : Int) := e7
  have e1 : bits .or .i64 (n : Int) 1 = ((n ||| 1 : Nat) : Int) := e1
  obtain ⟨b, hbb⟩ : ∃ b, b = n ||| 1 := ⟨_, rfl⟩
  have hb256 : b < 256 := by rw [hbb]; exact Nat.or_lt_two_pow (n := 8) hn (by decide)
  have hb0 : b ≠ 0 := by rw [hbb]; intro h; rw [Nat.or_comm] at h; exact absurd (or_zero h) (by decide)
  rw [← hbb] at e1
  have KN := Lib.hid known14_any
  have CB := chs_is hb256
  have MB := Lib.hid (CB.2 hb0).1
  have LL := Lib.hid (fun W => list_any 1 b hb256 W)
  clear hbb hn hk hk7 CB
  go_enter Try.func8, Try.ntmps8
  go_wp2_with (first | (with_reducible refine stop_load45 ?_) | (with_reducible refine stop_store45 ?_))
  refine (LL.out _).mono ?_
  rintro e w1 ⟨rl, rfl, hll, i1, x1'⟩
  go_wp2_with (first | (with_reducible refine stop_load45 ?_) | (with_reducible refine stop_store45 ?_))
  (with_reducible refine ⟨?_⟩); (with_reducible refine at_any ?_ ?_); (focus go_simp); refine fun K hK => wp_st45 _ _ w1.heap.size 1 0 rl nilP rfl rfl rfl (Bk.new rfl _ _) (fun w2 hd ho => hK _ _ ?_)
  have bw : Ex w w2 := Ex.trans x1' ho.ex
  have JL := Lib.hid ((i1.ext ((Below.refl _ _).alloc (Nat.le_refl _) _)).st (n := 0) (q := nilP) ho (Bk.new rfl _ _))
  generalize w1.heap.size = g9 at hd ⊢
  have bw0 := Lib.hid bw
  have A := Lib.hid hd
  have HLL := Lib.hid hll
  have cw := with_any 1 rl (k : Int) w2 JL.out
  rw [hll] at cw
  have CW := Lib.hid cw
  clear hK ho hd x1' i1 LL hll cw
  go_wp2_with (first | (with_reducible refine stop_load45 ?_) | (with_reducible refine stop_store45 ?_))
  (with_reducible refine ⟨?_⟩); (with_reducible refine at_any ?_ ?_); (focus go_simp); refine fun K hK => wp_ld45 _ g9 1 rl rfl rfl A.out (hK _ _ ?_)
  clear hK
  go_wp2_with (first | (with_reducible refine stop_load45 ?_) | (with_reducible refine stop_store45 ?_))
  refine CW.out.mono ?_
  rintro e w3 ⟨rm, rfl, hrl, i3, x3⟩
  have CH := Lib.hid (fun h => chk_is hb256 hk8 h)
  cases hc : withB 1 (mem8 b 8) (k : Int)
  · generalize withV 1 (mem8 b 8) (k : Int) = Vx at *
    have H0 := Lib.hid hc
    clear hc hrl i3 CH CW
    go_wp2_with (first | (with_reducible refine stop_load45 ?_) | (with_reducible refine stop_store45 ?_))
    (with_reducible refine ⟨?_⟩); (with_reducible refine at_any ?_ ?_); (focus go_simp); refine fun K hK => wp_st45 _ _ w3.heap.size Vx 0 rm nilP rfl rfl rfl (Bk.new rfl _ _) (fun w4 hd ho => hK _ _ ?_)
    have x34 := Ex.trans x3 ho.ex
    have g9lt := Lib.hid (show g9 < w3.heap.size from Nat.lt_of_lt_of_le (Bk.lt A.out) x3.size)
    replace A := Lib.hid (LB.ext A.out x34)
    replace JL := Lib.hid (Pt.In.ext JL.out x34)
    replace bw := Ex.trans bw x34
    have wlt := Lib.hid (show w.heap.size ≤ w3.heap.size from Nat.le_trans (Nat.le_trans bw0.out.size (Nat.le_refl _)) x3.size)
    generalize w3.heap.size = g10 at hd g9lt wlt ⊢
    have G0 := Lib.hid hd
    clear hK ho hd x3 x34 bw0
    go_wp2_with (first | (with_reducible refine stop_load45 ?_) | (with_reducible refine stop_store45 ?_))
    (with_reducible refine ⟨?_⟩); (with_reducible refine at_any ?_ ?_); (focus go_simp); refine fun K hK => wp_ld45 _ g9 1 rl rfl rfl A.out (hK _ _ ?_)
    clear hK
    go_wp2_with (first | (with_reducible refine stop_load45 ?_) | (with_reducible refine stop_store45 ?_))
    (with_reducible refine ⟨?_⟩); (with_reducible refine at_any ?_ ?_); (focus go_simp); refine fun K hK => wp_st45 _ _ g10 1 Vx rl rm rfl rfl rfl G0.out (fun wq hd ho => hK _ _ ?_)
    replace A := Lib.hid (ho.lb A.out (by have := g9lt.out; omega))
    replace JL := Lib.hid (Pt.In.st JL.out ho G0.out)
    replace bw : Ex w wq := ho.below w.heap.size wlt.out w bw
    have JM := JL
    have G := Lib.hid hd
    have hrl := HLL.out
    clear hK ho hd G0 g9lt wlt
    obtain ⟨y, hy⟩ : ∃ y, y = b := ⟨_, rfl⟩
    have hy1 : y < 256 := by rw [hy]; exact hb256
    have hy0 : y ≠ 0 := by rw [hy]; exact hb0
    have HSUB := Lib.hid (show ∀ p : Nat, p &&& b = p → p &&& y = p from fun p h => by rw [hy]; exact h)
    have hml : rl.l = mem8 y 8 := by rw [hrl, hy]
    have hpop : pop8 y ≤ pop8 b + 1 := by rw [hy]; omega
    have CS := chs_is hy1
    have GY := (CS.2 hy0).2.2
    have c5 := set_any 1 rl wq JM.out (by rw [hml]; exact GY) (by rw [hml]; exact mem8_len y 8)
    rw [hml, CS.1] at c5
    have C5 := Lib.hid c5
    have HML := Lib.hid hml
    have HY1 := Lib.hid hy1
    have HPOP := Lib.hid hpop
    have MY := Lib.hid ((CS.2 hy0).1)
    clear c5 hml hy hy1 hy0 hpop CS GY hrl
    go_wp2_with (first | (with_reducible refine stop_load45 ?_) | (with_reducible refine stop_store45 ?_))
    (with_reducible refine ⟨?_⟩); (with_reducible refine at_any ?_ ?_); (focus go_simp); refine fun K hK => wp_ld45 _ g10 1 rl rfl rfl G.out (hK _ _ ?_)
    clear hK
    go_wp2_with (first | (with_reducible refine stop_load45 ?_) | (with_reducible refine stop_store45 ?_))
    refine C5.out.mono ?_
    rintro e wr ⟨rfl, x5⟩
    replace A := Lib.hid (LB.ext A.out x5)
    replace G := Lib.hid (LB.ext G.out x5)
    replace JL := Lib.hid (Pt.In.ext JL.out x5)
    replace JM := Lib.hid (Pt.In.ext JM.out x5)
    replace bw := Ex.trans bw x5
    clear x5 C5
    obtain ⟨pn, pn1, pn2, ep⟩ := and_mask x2 b hb256
    obtain ⟨qn, qn1, qn2, eq'⟩ := and_mask x3 y HY1.out
    have EN := Lib.hid (and_nat pn qn pn1 qn1)
    have HP2 := Lib.hid pn2
    have HQ2 := Lib.hid qn2
    have C1 := Lib.hid (fun W => count_any pn pn1 W)
    have C3 := Lib.hid (fun W => count_any qn qn1 W)
    have C2 := Lib.hid (fun W (h : Ex wr W) => (show Calls Try.prog 34 #[LV 1 rl] W fun e w' => e = .returned (.int .i64 ((pop8 b / 2 + 1 : Nat) : Int)) ∧ Below W.heap.size W w' by
      have := maj_any 1 rl W (Pt.In.ext JL.out h); rwa [HLL.out, MB.out] at this))
    have C4 := Lib.hid (fun W (h : Ex wr W) => (show Calls Try.prog 34 #[LV 1 rl] W fun e w' => e = .returned (.int .i64 ((pop8 y / 2 + 1 : Nat) : Int)) ∧ Below W.heap.size W w' by
      have := maj_any 1 rl W (Pt.In.ext JM.out h); rwa [HML.out, MY.out] at this))
    have MEET := Lib.hid (fun h1 h2 => meet (p := pn) (q := qn) (x := b) (y := y) (HSUB.out pn HP2.out) HQ2.out HPOP.out h1 h2)
    obtain ⟨Mb, hMb⟩ : ∃ M : Int, M = ((pop8 b / 2 + 1 : Nat) : Int) := ⟨_, rfl⟩
    obtain ⟨My, hMy⟩ : ∃ M : Int, M = ((pop8 y / 2 + 1 : Nat) : Int) := ⟨_, rfl⟩
    obtain ⟨P, hP⟩ : ∃ M : Nat, M = pop8 pn := ⟨_, rfl⟩
    obtain ⟨Qn, hQ⟩ : ∃ M : Nat, M = pop8 qn := ⟨_, rfl⟩
    rw [← hMb] at C2
    rw [← hMy] at C4
    rw [← hP] at C1
    rw [← hQ] at C3
    have HMb := Lib.hid hMb
    have HMy := Lib.hid hMy
    have HPn := Lib.hid hP
    have HQn := Lib.hid hQ
    clear hMb hMy hP hQ pn1 pn2 qn1 qn2
    go_wp2_with (first | (with_reducible refine stop_load45 ?_) | (with_reducible refine stop_store45 ?_))
    clear ep eq' e255 e1 e7
    by_cases h1 : (P : Int) < Mb
    · have d1 : decide ((P : Int) < Mb) = true := decide_eq_true h1
      clear h1
      obtain ⟨V, hV⟩ : ∃ V : List Value, V = [.int .i64 (pn : Int), .int .i64 (P : Int), LV 1 rl, .int .i64 Mb, .bool true, .bool true, undef, undef, undef, undef, undef, .bool true] := ⟨_, rfl⟩
      refine wp_region_val (fun i => V.getD i undef) (fun _ w2 => Ex wr w2) (by kernel_rfl) (by kernel_rfl) (by kernel_rfl) (fitB_spec (by kernel_rfl)) ?_ ?_ ?_
      · intro l h0
        exact (Below.refl _ _).drew
      · intro i o ho
        have hi : i < 12 := (Array.getElem?_eq_some_iff.1 ho).1
        have hi' : i = 0 ∨ i = 1 ∨ i = 2 ∨ i = 3 ∨ i = 4 ∨ i = 5 ∨ i = 6 ∨ i = 7 ∨ i = 8 ∨ i = 9 ∨ i = 10 ∨ i = 11 := by omega
        clear hi
        rcases hi' with rfl | rfl | rfl | rfl | rfl | rfl | rfl | rfl | rfl | rfl | rfl | rfl
        all_goals (simp only [List.getElem?_toArray, List.getElem?_cons_zero, List.getElem?_cons_succ, Option.some.injEq] at ho; subst ho hV; intro listed a w2 hI hsz hls hun hdep hout)
        · rw [if_pos (by rfl)]
          intro K hK
          have q14 := hout 14 (outB_spec (by kernel_rfl))
          clear hsz hdep hout hun
          go_simp
          exact hK _ (by exact hI)
        · rw [if_pos (by rfl)]
          intro K hK
          have q41 := (hdep ⟨0, .data⟩ (by simp) rfl).2 _ rfl _ rfl
          have q41 : a.tmps.getD 41 undef = .int .i64 (pn : Int) := q41
          clear hsz hdep hout hun
          go_simp
          refine (C1.out _).mono ?_
          rintro e w3 ⟨rfl, rfl⟩
          exact hK _ hI
        · rw [if_pos (by rfl)]
          intro K hK
          have q9 := hout 9 (outB_spec (by kernel_rfl))
          exact wp_ld45 _ g9 1 rl rfl q9 (LB.ext A.out hI) (hK _ hI)
        · rw [if_pos (by rfl)]
          intro K hK
          have q43 := (hdep ⟨2, .data⟩ (by simp) rfl).2 _ rfl _ rfl
          have q43 : a.tmps.getD 43 undef = LV 1 rl := q43
          clear hsz hdep hout hun
          go_simp
          refine (C2.out _ hI).mono ?_
          rintro e w3 ⟨rfl, x3⟩
          exact hK _ (Ex.trans hI x3)
        · rw [if_pos (by rfl)]
          intro K hK
          have q42 := (hdep ⟨1, .data⟩ (by simp) rfl).2 _ rfl _ rfl
          have q42 : a.tmps.getD 42 undef = .int .i64 (P : Int) := q42
          have q44 := (hdep ⟨3, .data⟩ (by simp) rfl).2 _ rfl _ rfl
          have q44 : a.tmps.getD 44 undef = .int .i64 Mb := q44
          clear hsz hdep hout hun
          go_simp
          exact hK _ (by exact hI)
        · rw [if_pos (by rfl)]
          intro K hK
          have q45 := (hdep ⟨4, .data⟩ (by simp) rfl).2 _ rfl _ rfl
          have q45 : a.tmps.getD 45 undef = .bool true := q45
          clear hsz hdep hout hun
          go_simp
          exact hK _ (by exact hI)
        · have kg := (hdep ⟨5, .guard⟩ (by simp) rfl).2 _ rfl _ rfl
          rw [if_neg (not_wanted rfl rfl rfl kg (by decide))]
          exact ⟨rfl, by exact hI⟩
        · have kg := (hdep ⟨5, .guard⟩ (by simp) rfl).2 _ rfl _ rfl
          rw [if_neg (not_wanted rfl rfl rfl kg (by decide))]
          exact ⟨rfl, by exact hI⟩
        · have kg := (hdep ⟨5, .guard⟩ (by simp) rfl).2 _ rfl _ rfl
          rw [if_neg (not_wanted rfl rfl rfl kg (by decide))]
          exact ⟨rfl, by exact hI⟩
        · have kg := (hdep ⟨5, .guard⟩ (by simp) rfl).2 _ rfl _ rfl
          rw [if_neg (not_wanted rfl rfl rfl kg (by decide))]
          exact ⟨rfl, by exact hI⟩
        · have kg := (hdep ⟨5, .guard⟩ (by simp) rfl).2 _ rfl _ rfl
          rw [if_neg (not_wanted rfl rfl rfl kg (by decide))]
          exact ⟨rfl, by exact hI⟩
        · rw [if_pos (by rfl)]
          intro K hK
          have q46 := (hdep ⟨5, .data⟩ (by simp) rfl).2 _ rfl _ rfl
          have q46 : a.tmps.getD 46 undef = .bool true := q46
          have q51 := (hdep ⟨10, .data⟩ (by simp) rfl).2 _ rfl _ rfl
          have q51 : a.tmps.getD 51 undef = undef := q51
          clear hsz hdep hout hun
          go_simp
          exact hK _ (by exact hI)
      · intro l w4 hall hI
        subst hV
        simp only [putAll, List.getD_cons_zero, List.getD_cons_succ, Act.put, List.setIfInBounds_toArray, List.set_cons_zero, List.set_cons_succ]
        have bw4 : Ex w w4 := Ex.trans bw hI
        clear hI hall
        go_wp2_with (first | (with_reducible refine stop_load45 ?_) | (with_reducible refine stop_store45 ?_))
        refine (KN.out _).mono ?_
        rintro e w5 ⟨rfl, x5⟩
        have bw5 := Ex.trans bw4 x5
        go_wp2_with (first | (with_reducible refine stop_load45 ?_) | (with_reducible refine stop_store45 ?_))
        go_ret
        exact ⟨rfl, bw5⟩
    · have d1 : decide ((P : Int) < Mb) = false := decide_eq_false (by omega)
      by_cases h2 : (Qn : Int) < My
      · have d2 : decide ((Qn : Int) < My) = true := decide_eq_true h2
        clear h1 h2
        obtain ⟨V, hV⟩ : ∃ V : List Value, V = [.int .i64 (pn : Int), .int .i64 (P : Int), LV 1 rl, .int .i64 Mb, .bool false, .bool false, .int .i64 (qn : Int), .int .i64 (Qn : Int), LV 1 rl, .int .i64 My, .bool true, .bool true] := ⟨_, rfl⟩
        refine wp_region_val (fun i => V.getD i undef) (fun _ w2 => Ex wr w2) (by kernel_rfl) (by kernel_rfl) (by kernel_rfl) (fitB_spec (by kernel_rfl)) ?_ ?_ ?_
        · intro l h0
          exact (Below.refl _ _).drew
        · intro i o ho
          have hi : i < 12 := (Array.getElem?_eq_some_iff.1 ho).1
          have hi' : i = 0 ∨ i = 1 ∨ i = 2 ∨ i = 3 ∨ i = 4 ∨ i = 5 ∨ i = 6 ∨ i = 7 ∨ i = 8 ∨ i = 9 ∨ i = 10 ∨ i = 11 := by omega
          clear hi
          rcases hi' with rfl | rfl | rfl | rfl | rfl | rfl | rfl | rfl | rfl | rfl | rfl | rfl
          all_goals (simp only [List.getElem?_toArray, List.getElem?_cons_zero, List.getElem?_cons_succ, Option.some.injEq] at ho; subst ho hV; intro listed a w2 hI hsz hls hun hdep hout)
          · rw [if_pos (by rfl)]
            intro K hK
            have q14 := hout 14 (outB_spec (by kernel_rfl))
            clear hsz hdep hout hun
            go_simp
            exact hK _ (by exact hI)
          · rw [if_pos (by rfl)]
            intro K hK
            have q41 := (hdep ⟨0, .data⟩ (by simp) rfl).2 _ rfl _ rfl
            have q41 : a.tmps.getD 41 undef = .int .i64 (pn : Int) := q41
            clear hsz hdep hout hun
            go_simp
            refine (C1.out _).mono ?_
            rintro e w3 ⟨rfl, rfl⟩
            exact hK _ hI
          · rw [if_pos (by rfl)]
            intro K hK
            have q9 := hout 9 (outB_spec (by kernel_rfl))
            exact wp_ld45 _ g9 1 rl rfl q9 (LB.ext A.out hI) (hK _ hI)
          · rw [if_pos (by rfl)]
            intro K hK
            have q43 := (hdep ⟨2, .data⟩ (by simp) rfl).2 _ rfl _ rfl
            have q43 : a.tmps.getD 43 undef = LV 1 rl := q43
            clear hsz hdep hout hun
            go_simp
            refine (C2.out _ hI).mono ?_
            rintro e w3 ⟨rfl, x3⟩
            exact hK _ (Ex.trans hI x3)
          · rw [if_pos (by rfl)]
            intro K hK
            have q42 := (hdep ⟨1, .data⟩ (by simp) rfl).2 _ rfl _ rfl
            have q42 : a.tmps.getD 42 undef = .int .i64 (P : Int) := q42
            have q44 := (hdep ⟨3, .data⟩ (by simp) rfl).2 _ rfl _ rfl
            have q44 : a.tmps.getD 44 undef = .int .i64 Mb := q44
            clear hsz hdep hout hun
            go_simp
            exact hK _ (by exact hI)
          · rw [if_pos (by rfl)]
            intro K hK
            have q45 := (hdep ⟨4, .data⟩ (by simp) rfl).2 _ rfl _ rfl
            have q45 : a.tmps.getD 45 undef = .bool false := q45
            clear hsz hdep hout hun
            go_simp
            exact hK _ (by exact hI)
          · have kg := (hdep ⟨5, .guard⟩ (by simp) rfl).2 _ rfl _ rfl
            rw [if_pos (wanted_of rfl rfl rfl kg)]
            intro K hK
            have q15 := hout 15 (outB_spec (by kernel_rfl))
            clear hsz hdep hout hun kg
            go_simp
            exact hK _ (by exact hI)
          · have kg := (hdep ⟨5, .guard⟩ (by simp) rfl).2 _ rfl _ rfl
            rw [if_pos (wanted_of rfl rfl rfl kg)]
            intro K hK
            have q47 := (hdep ⟨6, .data⟩ (by simp) rfl).2 _ rfl _ rfl
            have q47 : a.tmps.getD 47 undef = .int .i64 (qn : Int) := q47
            clear hsz hdep hout hun kg
            go_simp
            refine (C3.out _).mono ?_
            rintro e w3 ⟨rfl, rfl⟩
            exact hK _ hI
          · have kg := (hdep ⟨5, .guard⟩ (by simp) rfl).2 _ rfl _ rfl
            rw [if_pos (wanted_of rfl rfl rfl kg)]
            intro K hK
            have q10 := hout 10 (outB_spec (by kernel_rfl))
            exact wp_ld45 _ g10 1 rl rfl q10 (LB.ext G.out hI) (hK _ hI)
          · have kg := (hdep ⟨5, .guard⟩ (by simp) rfl).2 _ rfl _ rfl
            rw [if_pos (wanted_of rfl rfl rfl kg)]
            intro K hK
            have q49 := (hdep ⟨8, .data⟩ (by simp) rfl).2 _ rfl _ rfl
            have q49 : a.tmps.getD 49 undef = LV 1 rl := q49
            clear hsz hdep hout hun kg
            go_simp
            refine (C4.out _ hI).mono ?_
            rintro e w3 ⟨rfl, x3⟩
            exact hK _ (Ex.trans hI x3)
          · have kg := (hdep ⟨5, .guard⟩ (by simp) rfl).2 _ rfl _ rfl
            rw [if_pos (wanted_of rfl rfl rfl kg)]
            intro K hK
            have q48 := (hdep ⟨7, .data⟩ (by simp) rfl).2 _ rfl _ rfl
            have q48 : a.tmps.getD 48 undef = .int .i64 (Qn : Int) := q48
            have q50 := (hdep ⟨9, .data⟩ (by simp) rfl).2 _ rfl _ rfl
            have q50 : a.tmps.getD 50 undef = .int .i64 My := q50
            clear hsz hdep hout hun kg
            go_simp
            exact hK _ (by exact hI)
          · rw [if_pos (by rfl)]
            intro K hK
            have q46 := (hdep ⟨5, .data⟩ (by simp) rfl).2 _ rfl _ rfl
            have q46 : a.tmps.getD 46 undef = .bool false := q46
            have q51 := (hdep ⟨10, .data⟩ (by simp) rfl).2 _ rfl _ rfl
            have q51 : a.tmps.getD 51 undef = .bool true := q51
            clear hsz hdep hout hun
            go_simp
            exact hK _ (by exact hI)
        · intro l w4 hall hI
          subst hV
          simp only [putAll, List.getD_cons_zero, List.getD_cons_succ, Act.put, List.setIfInBounds_toArray, List.set_cons_zero, List.set_cons_succ]
          have bw4 : Ex w w4 := Ex.trans bw hI
          clear hI hall
          go_wp2_with (first | (with_reducible refine stop_load45 ?_) | (with_reducible refine stop_store45 ?_))
          refine (KN.out _).mono ?_
          rintro e w5 ⟨rfl, x5⟩
          have bw5 := Ex.trans bw4 x5
          go_wp2_with (first | (with_reducible refine stop_load45 ?_) | (with_reducible refine stop_store45 ?_))
          go_ret
          exact ⟨rfl, bw5⟩
      · have d2 : decide ((Qn : Int) < My) = false := decide_eq_false (by omega)
        have nz := MEET.out (by have := HMb.out; have := HPn.out; omega) (by have := HMy.out; have := HQn.out; omega)
        obtain ⟨z, hz⟩ : ∃ z, z = pn &&& qn := ⟨_, rfl⟩
        rw [← hz] at EN nz
        have EN2 := Lib.hid (show ((z : Int) == 0) = false by simp; omega)
        have EN3 := Lib.hid (show ((z : Int) != 0) = true by simp; omega)
        clear h1 h2 hz nz
        obtain ⟨V, hV⟩ : ∃ V : List Value, V = [.int .i64 (pn : Int), .int .i64 (P : Int), LV 1 rl, .int .i64 Mb, .bool false, .bool false, .int .i64 (qn : Int), .int .i64 (Qn : Int), LV 1 rl, .int .i64 My, .bool false, .bool false] := ⟨_, rfl⟩
        refine wp_region_val (fun i => V.getD i undef) (fun _ w2 => Ex wr w2) (by kernel_rfl) (by kernel_rfl) (by kernel_rfl) (fitB_spec (by kernel_rfl)) ?_ ?_ ?_
        · intro l h0
          exact (Below.refl _ _).drew
        · intro i o ho
          have hi : i < 12 := (Array.getElem?_eq_some_iff.1 ho).1
          have hi' : i = 0 ∨ i = 1 ∨ i = 2 ∨ i = 3 ∨ i = 4 ∨ i = 5 ∨ i = 6 ∨ i = 7 ∨ i = 8 ∨ i = 9 ∨ i = 10 ∨ i = 11 := by omega
          clear hi
          rcases hi' with rfl | rfl | rfl | rfl | rfl | rfl | rfl | rfl | rfl | rfl | rfl | rfl
          all_goals (simp only [List.getElem?_toArray, List.getElem?_cons_zero, List.getElem?_cons_succ, Option.some.injEq] at ho; subst ho hV; intro listed a w2 hI hsz hls hun hdep hout)
          · rw [if_pos (by rfl)]
            intro K hK
            have q14 := hout 14 (outB_spec (by kernel_rfl))
            clear hsz hdep hout hun
            go_simp
            exact hK _ (by exact hI)
          · rw [if_pos (by rfl)]
            intro K hK
            have q41 := (hdep ⟨0, .data⟩ (by simp) rfl).2 _ rfl _ rfl
            have q41 : a.tmps.getD 41 undef = .int .i64 (pn : Int) := q41
            clear hsz hdep hout hun
            go_simp
            refine (C1.out _).mono ?_
            rintro e w3 ⟨rfl, rfl⟩
            exact hK _ hI
          · rw [if_pos (by rfl)]
            intro K hK
            have q9 := hout 9 (outB_spec (by kernel_rfl))
            exact wp_ld45 _ g9 1 rl rfl q9 (LB.ext A.out hI) (hK _ hI)
          · rw [if_pos (by rfl)]
            intro K hK
            have q43 := (hdep ⟨2, .data⟩ (by simp) rfl).2 _ rfl _ rfl
            have q43 : a.tmps.getD 43 undef = LV 1 rl := q43
            clear hsz hdep hout hun
            go_simp
            refine (C2.out _ hI).mono ?_
            rintro e w3 ⟨rfl, x3⟩
            exact hK _ (Ex.trans hI x3)
          · rw [if_pos (by rfl)]
            intro K hK
            have q42 := (hdep ⟨1, .data⟩ (by simp) rfl).2 _ rfl _ rfl
            have q42 : a.tmps.getD 42 undef = .int .i64 (P : Int) := q42
            have q44 := (hdep ⟨3, .data⟩ (by simp) rfl).2 _ rfl _ rfl
            have q44 : a.tmps.getD 44 undef = .int .i64 Mb := q44
            clear hsz hdep hout hun
            go_simp
            exact hK _ (by exact hI)
          · rw [if_pos (by rfl)]
            intro K hK
            have q45 := (hdep ⟨4, .data⟩ (by simp) rfl).2 _ rfl _ rfl
            have q45 : a.tmps.getD 45 undef = .bool false := q45
            clear hsz hdep hout hun
            go_simp
            exact hK _ (by exact hI)
          · have kg := (hdep ⟨5, .guard⟩ (by simp) rfl).2 _ rfl _ rfl
            rw [if_pos (wanted_of rfl rfl rfl kg)]
            intro K hK
            have q15 := hout 15 (outB_spec (by kernel_rfl))
            clear hsz hdep hout hun kg
            go_simp
            exact hK _ (by exact hI)
          · have kg := (hdep ⟨5, .guard⟩ (by simp) rfl).2 _ rfl _ rfl
            rw [if_pos (wanted_of rfl rfl rfl kg)]
            intro K hK
            have q47 := (hdep ⟨6, .data⟩ (by simp) rfl).2 _ rfl _ rfl
            have q47 : a.tmps.getD 47 undef = .int .i64 (qn : Int) := q47
            clear hsz hdep hout hun kg
            go_simp
            refine (C3.out _).mono ?_
            rintro e w3 ⟨rfl, rfl⟩
            exact hK _ hI
          · have kg := (hdep ⟨5, .guard⟩ (by simp) rfl).2 _ rfl _ rfl
            rw [if_pos (wanted_of rfl rfl rfl kg)]
            intro K hK
            have q10 := hout 10 (outB_spec (by kernel_rfl))
            exact wp_ld45 _ g10 1 rl rfl q10 (LB.ext G.out hI) (hK _ hI)
          · have kg := (hdep ⟨5, .guard⟩ (by simp) rfl).2 _ rfl _ rfl
            rw [if_pos (wanted_of rfl rfl rfl kg)]
            intro K hK
            have q49 := (hdep ⟨8, .data⟩ (by simp) rfl).2 _ rfl _ rfl
            have q49 : a.tmps.getD 49 undef = LV 1 rl := q49
            clear hsz hdep hout hun kg
            go_simp
            refine (C4.out _ hI).mono ?_
            rintro e w3 ⟨rfl, x3⟩
            exact hK _ (Ex.trans hI x3)
          · have kg := (hdep ⟨5, .guard⟩ (by simp) rfl).2 _ rfl _ rfl
            rw [if_pos (wanted_of rfl rfl rfl kg)]
            intro K hK
            have q48 := (hdep ⟨7, .data⟩ (by simp) rfl).2 _ rfl _ rfl
            have q48 : a.tmps.getD 48 undef = .int .i64 (Qn : Int) := q48
            have q50 := (hdep ⟨9, .data⟩ (by simp) rfl).2 _ rfl _ rfl
            have q50 : a.tmps.getD 50 undef = .int .i64 My := q50
            clear hsz hdep hout hun kg
            go_simp
            exact hK _ (by exact hI)
          · rw [if_pos (by rfl)]
            intro K hK
            have q46 := (hdep ⟨5, .data⟩ (by simp) rfl).2 _ rfl _ rfl
            have q46 : a.tmps.getD 46 undef = .bool false := q46
            have q51 := (hdep ⟨10, .data⟩ (by simp) rfl).2 _ rfl _ rfl
            have q51 : a.tmps.getD 51 undef = .bool false := q51
            clear hsz hdep hout hun
            go_simp
            exact hK _ (by exact hI)
        · intro l w4 hall hI
          subst hV
          simp only [putAll, List.getD_cons_zero, List.getD_cons_succ, Act.put, List.setIfInBounds_toArray, List.set_cons_zero, List.set_cons_succ]
          have bw4 : Ex w w4 := Ex.trans bw hI
          clear hI hall
          have en := EN.out
          have en2 := EN2.out
          have en3 := EN3.out
          go_wp2_with (first | (with_reducible refine stop_load45 ?_) | (with_reducible refine stop_store45 ?_))
          refine (KN.out _).mono ?_
          rintro e w5 ⟨rfl, x5⟩
          have bw5 := Ex.trans bw4 x5
          go_wp2_with (first | (with_reducible refine stop_load45 ?_) | (with_reducible refine stop_store45 ?_))
          go_ret
          exact ⟨rfl, bw5⟩

  · obtain ⟨c1, c2⟩ := CH.out hc
    rw [c1] at hrl
    rw [c2]
    clear hc CH CW c1 c2
    go_wp2_with (first | (with_reducible refine stop_load45 ?_) | (with_reducible refine stop_store45 ?_))
    (with_reducible refine ⟨?_⟩); (with_reducible refine at_any ?_ ?_); (focus go_simp); refine fun K hK => wp_st45 _ _ w3.heap.size 2 0 rm nilP rfl rfl rfl (Bk.new rfl _ _) (fun wq hd ho => hK _ _ ?_)
    have x34 := Ex.trans x3 ho.ex
    have JM := Lib.hid ((i3.ext ((Below.refl _ _).alloc (Nat.le_refl _) _)).st (n := 0) (q := nilP) ho (Bk.new rfl _ _))
    replace A := Lib.hid (LB.ext A.out x34)
    replace JL := Lib.hid (Pt.In.ext JL.out x34)
    replace bw := Ex.trans bw x34
    generalize w3.heap.size = g10 at hd ⊢
    have G := Lib.hid hd
    clear hK ho hd x3 x34 i3 bw0
    obtain ⟨y, hy⟩ : ∃ y, y = (b ||| 2 ^ k) := ⟨_, rfl⟩
    have hy1 : y < 256 := by rw [hy]; exact Nat.or_lt_two_pow (n := 8) hb256 (Nat.pow_lt_pow_right (by decide) hk8)
    have hy0 : y ≠ 0 := by rw [hy]; exact fun h => hb0 (by have h2 := congrArg (fun n => n &&& b) h; simpa using or_zero h)
    have HSUB := Lib.hid (show ∀ p : Nat, p &&& b = p → p &&& y = p from fun p h => by rw [hy]; exact sub_or h)
    have hml : rm.l = mem8 y 8 := by rw [hrl, hy]
    have hpop : pop8 y ≤ pop8 b + 1 := by rw [hy]; exact pop_or hb256 hk8
    have CS := chs_is hy1
    have GY := (CS.2 hy0).2.2
    have c5 := set_any 2 rm wq JM.out (by rw [hml]; exact GY) (by rw [hml]; exact mem8_len y 8)
    rw [hml, CS.1] at c5
    have C5 := Lib.hid c5
    have HML := Lib.hid hml
    have HY1 := Lib.hid hy1
    have HPOP := Lib.hid hpop
    have MY := Lib.hid ((CS.2 hy0).2.1)
    clear c5 hml hy hy1 hy0 hpop CS GY hrl
    go_wp2_with (first | (with_reducible refine stop_load45 ?_) | (with_reducible refine stop_store45 ?_))
    (with_reducible refine ⟨?_⟩); (with_reducible refine at_any ?_ ?_); (focus go_simp); refine fun K hK => wp_ld45 _ g10 2 rm rfl rfl G.out (hK _ _ ?_)
    clear hK
    go_wp2_with (first | (with_reducible refine stop_load45 ?_) | (with_reducible refine stop_store45 ?_))
    refine C5.out.mono ?_
    rintro e wr ⟨rfl, x5⟩
    replace A := Lib.hid (LB.ext A.out x5)
    replace G := Lib.hid (LB.ext G.out x5)
    replace JL := Lib.hid (Pt.In.ext JL.out x5)
    replace JM := Lib.hid (Pt.In.ext JM.out x5)
    replace bw := Ex.trans bw x5
    clear x5 C5
    obtain ⟨pn, pn1, pn2, ep⟩ := and_mask x2 b hb256
    obtain ⟨qn, qn1, qn2, eq'⟩ := and_mask x3 y HY1.out
    have EN := Lib.hid (and_nat pn qn pn1 qn1)
    have HP2 := Lib.hid pn2
    have HQ2 := Lib.hid qn2
    have C1 := Lib.hid (fun W => count_any pn pn1 W)
    have C3 := Lib.hid (fun W => count_any qn qn1 W)
    have C2 := Lib.hid (fun W (h : Ex wr W) => (show Calls Try.prog 34 #[LV 1 rl] W fun e w' => e = .returned (.int .i64 ((pop8 b / 2 + 1 : Nat) : Int)) ∧ Below W.heap.size W w' by
      have := maj_any 1 rl W (Pt.In.ext JL.out h); rwa [HLL.out, MB.out] at this))
    have C4 := Lib.hid (fun W (h : Ex wr W) => (show Calls Try.prog 34 #[LV 2 rm] W fun e w' => e = .returned (.int .i64 ((pop8 y / 2 + 1 : Nat) : Int)) ∧ Below W.heap.size W w' by
      have := maj_any 2 rm W (Pt.In.ext JM.out h); rwa [HML.out, MY.out] at this))
    have MEET := Lib.hid (fun h1 h2 => meet (p := pn) (q := qn) (x := b) (y := y) (HSUB.out pn HP2.out) HQ2.out HPOP.out h1 h2)
    obtain ⟨Mb, hMb⟩ : ∃ M : Int, M = ((pop8 b / 2 + 1 : Nat) : Int) := ⟨_, rfl⟩
    obtain ⟨My, hMy⟩ : ∃ M : Int, M = ((pop8 y / 2 + 1 : Nat) : Int) := ⟨_, rfl⟩
    obtain ⟨P, hP⟩ : ∃ M : Nat, M = pop8 pn := ⟨_, rfl⟩
    obtain ⟨Qn, hQ⟩ : ∃ M : Nat, M = pop8 qn := ⟨_, rfl⟩
    rw [← hMb] at C2
    rw [← hMy] at C4
    rw [← hP] at C1
    rw [← hQ] at C3
    have HMb := Lib.hid hMb
    have HMy := Lib.hid hMy
    have HPn := Lib.hid hP
    have HQn := Lib.hid hQ
    clear hMb hMy hP hQ pn1 pn2 qn1 qn2
    go_wp2_with (first | (with_reducible refine stop_load45 ?_) | (with_reducible refine stop_store45 ?_))
    clear ep eq' e255 e1 e7
    by_cases h1 : (P : Int) < Mb
    · have d1 : decide ((P : Int) < Mb) = true := decide_eq_true h1
      clear h1
      obtain ⟨V, hV⟩ : ∃ V : List Value, V = [.int .i64 (pn : Int), .int .i64 (P : Int), LV 1 rl, .int .i64 Mb, .bool true, .bool true, undef, undef, undef, undef, undef, .bool true] := ⟨_, rfl⟩
      refine wp_region_val (fun i => V.getD i undef) (fun _ w2 => Ex wr w2) (by kernel_rfl) (by kernel_rfl) (by kernel_rfl) (fitB_spec (by kernel_rfl)) ?_ ?_ ?_
      · intro l h0
        exact (Below.refl _ _).drew
      · intro i o ho
        have hi : i < 12 := (Array.getElem?_eq_some_iff.1 ho).1
        have hi' : i = 0 ∨ i = 1 ∨ i = 2 ∨ i = 3 ∨ i = 4 ∨ i = 5 ∨ i = 6 ∨ i = 7 ∨ i = 8 ∨ i = 9 ∨ i = 10 ∨ i = 11 := by omega
        clear hi
        rcases hi' with rfl | rfl | rfl | rfl | rfl | rfl | rfl | rfl | rfl | rfl | rfl | rfl
        all_goals (simp only [List.getElem?_toArray, List.getElem?_cons_zero, List.getElem?_cons_succ, Option.some.injEq] at ho; subst ho hV; intro listed a w2 hI hsz hls hun hdep hout)
        · rw [if_pos (by rfl)]
          intro K hK
          have q14 := hout 14 (outB_spec (by kernel_rfl))
          clear hsz hdep hout hun
          go_simp
          exact hK _ (by exact hI)
        · rw [if_pos (by rfl)]
          intro K hK
          have q41 := (hdep ⟨0, .data⟩ (by simp) rfl).2 _ rfl _ rfl
          have q41 : a.tmps.getD 41 undef = .int .i64 (pn : Int) := q41
          clear hsz hdep hout hun
          go_simp
          refine (C1.out _).mono ?_
          rintro e w3 ⟨rfl, rfl⟩
          exact hK _ hI
        · rw [if_pos (by rfl)]
          intro K hK
          have q9 := hout 9 (outB_spec (by kernel_rfl))
          exact wp_ld45 _ g9 1 rl rfl q9 (LB.ext A.out hI) (hK _ hI)
        · rw [if_pos (by rfl)]
          intro K hK
          have q43 := (hdep ⟨2, .data⟩ (by simp) rfl).2 _ rfl _ rfl
          have q43 : a.tmps.getD 43 undef = LV 1 rl := q43
          clear hsz hdep hout hun
          go_simp
          refine (C2.out _ hI).mono ?_
          rintro e w3 ⟨rfl, x3⟩
          exact hK _ (Ex.trans hI x3)
        · rw [if_pos (by rfl)]
          intro K hK
          have q42 := (hdep ⟨1, .data⟩ (by simp) rfl).2 _ rfl _ rfl
          have q42 : a.tmps.getD 42 undef = .int .i64 (P : Int) := q42
          have q44 := (hdep ⟨3, .data⟩ (by simp) rfl).2 _ rfl _ rfl
          have q44 : a.tmps.getD 44 undef = .int .i64 Mb := q44
          clear hsz hdep hout hun
          go_simp
          exact hK _ (by exact hI)
        · rw [if_pos (by rfl)]
          intro K hK
          have q45 := (hdep ⟨4, .data⟩ (by simp) rfl).2 _ rfl _ rfl
          have q45 : a.tmps.getD 45 undef = .bool true := q45
          clear hsz hdep hout hun
          go_simp
          exact hK _ (by exact hI)
        · have kg := (hdep ⟨5, .guard⟩ (by simp) rfl).2 _ rfl _ rfl
          rw [if_neg (not_wanted rfl rfl rfl kg (by decide))]
          exact ⟨rfl, by exact hI⟩
        · have kg := (hdep ⟨5, .guard⟩ (by simp) rfl).2 _ rfl _ rfl
          rw [if_neg (not_wanted rfl rfl rfl kg (by decide))]
          exact ⟨rfl, by exact hI⟩
        · have kg := (hdep ⟨5, .guard⟩ (by simp) rfl).2 _ rfl _ rfl
          rw [if_neg (not_wanted rfl rfl rfl kg (by decide))]
          exact ⟨rfl, by exact hI⟩
        · have kg := (hdep ⟨5, .guard⟩ (by simp) rfl).2 _ rfl _ rfl
          rw [if_neg (not_wanted rfl rfl rfl kg (by decide))]
          exact ⟨rfl, by exact hI⟩
        · have kg := (hdep ⟨5, .guard⟩ (by simp) rfl).2 _ rfl _ rfl
          rw [if_neg (not_wanted rfl rfl rfl kg (by decide))]
          exact ⟨rfl, by exact hI⟩
        · rw [if_pos (by rfl)]
          intro K hK
          have q46 := (hdep ⟨5, .data⟩ (by simp) rfl).2 _ rfl _ rfl
          have q46 : a.tmps.getD 46 undef = .bool true := q46
          have q51 := (hdep ⟨10, .data⟩ (by simp) rfl).2 _ rfl _ rfl
          have q51 : a.tmps.getD 51 undef = undef := q51
          clear hsz hdep hout hun
          go_simp
          exact hK _ (by exact hI)
      · intro l w4 hall hI
        subst hV
        simp only [putAll, List.getD_cons_zero, List.getD_cons_succ, Act.put, List.setIfInBounds_toArray, List.set_cons_zero, List.set_cons_succ]
        have bw4 : Ex w w4 := Ex.trans bw hI
        clear hI hall
        go_wp2_with (first | (with_reducible refine stop_load45 ?_) | (with_reducible refine stop_store45 ?_))
        refine (KN.out _).mono ?_
        rintro e w5 ⟨rfl, x5⟩
        have bw5 := Ex.trans bw4 x5
        go_wp2_with (first | (with_reducible refine stop_load45 ?_) | (with_reducible refine stop_store45 ?_))
        go_ret
        exact ⟨rfl, bw5⟩
    · have d1 : decide ((P : Int) < Mb) = false := decide_eq_false (by omega)
      by_cases h2 : (Qn : Int) < My
      · have d2 : decide ((Qn : Int) < My) = true := decide_eq_true h2
        clear h1 h2
        obtain ⟨V, hV⟩ : ∃ V : List Value, V = [.int .i64 (pn : Int), .int .i64 (P : Int), LV 1 rl, .int .i64 Mb, .bool false, .bool false, .int .i64 (qn : Int), .int .i64 (Qn : Int), LV 2 rm, .int .i64 My, .bool true, .bool true] := ⟨_, rfl⟩
        refine wp_region_val (fun i => V.getD i undef) (fun _ w2 => Ex wr w2) (by kernel_rfl) (by kernel_rfl) (by kernel_rfl) (fitB_spec (by kernel_rfl)) ?_ ?_ ?_
        · intro l h0
          exact (Below.refl _ _).drew
        · intro i o ho
          have hi : i < 12 := (Array.getElem?_eq_some_iff.1 ho).1
          have hi' : i = 0 ∨ i = 1 ∨ i = 2 ∨ i = 3 ∨ i = 4 ∨ i = 5 ∨ i = 6 ∨ i = 7 ∨ i = 8 ∨ i = 9 ∨ i = 10 ∨ i = 11 := by omega
          clear hi
          rcases hi' with rfl | rfl | rfl | rfl | rfl | rfl | rfl | rfl | rfl | rfl | rfl | rfl
          all_goals (simp only [List.getElem?_toArray, List.getElem?_cons_zero, List.getElem?_cons_succ, Option.some.injEq] at ho; subst ho hV; intro listed a w2 hI hsz hls hun hdep hout)
          · rw [if_pos (by rfl)]
            intro K hK
            have q14 := hout 14 (outB_spec (by kernel_rfl))
            clear hsz hdep hout hun
            go_simp
            exact hK _ (by exact hI)
          · rw [if_pos (by rfl)]
            intro K hK
            have q41 := (hdep ⟨0, .data⟩ (by simp) rfl).2 _ rfl _ rfl
            have q41 : a.tmps.getD 41 undef = .int .i64 (pn : Int) := q41
            clear hsz hdep hout hun
            go_simp
            refine (C1.out _).mono ?_
            rintro e w3 ⟨rfl, rfl⟩
            exact hK _ hI
          · rw [if_pos (by rfl)]
            intro K hK
            have q9 := hout 9 (outB_spec (by kernel_rfl))
            exact wp_ld45 _ g9 1 rl rfl q9 (LB.ext A.out hI) (hK _ hI)
          · rw [if_pos (by rfl)]
            intro K hK
            have q43 := (hdep ⟨2, .data⟩ (by simp) rfl).2 _ rfl _ rfl
            have q43 : a.tmps.getD 43 undef = LV 1 rl := q43
            clear hsz hdep hout hun
            go_simp
            refine (C2.out _ hI).mono ?_
            rintro e w3 ⟨rfl, x3⟩
            exact hK _ (Ex.trans hI x3)
          · rw [if_pos (by rfl)]
            intro K hK
            have q42 := (hdep ⟨1, .data⟩ (by simp) rfl).2 _ rfl _ rfl
            have q42 : a.tmps.getD 42 undef = .int .i64 (P : Int) := q42
            have q44 := (hdep ⟨3, .data⟩ (by simp) rfl).2 _ rfl _ rfl
            have q44 : a.tmps.getD 44 undef = .int .i64 Mb := q44
            clear hsz hdep hout hun
            go_simp
            exact hK _ (by exact hI)
          · rw [if_pos (by rfl)]
            intro K hK
            have q45 := (hdep ⟨4, .data⟩ (by simp) rfl).2 _ rfl _ rfl
            have q45 : a.tmps.getD 45 undef = .bool false := q45
            clear hsz hdep hout hun
            go_simp
            exact hK _ (by exact hI)
          · have kg := (hdep ⟨5, .guard⟩ (by simp) rfl).2 _ rfl _ rfl
            rw [if_pos (wanted_of rfl rfl rfl kg)]
            intro K hK
            have q15 := hout 15 (outB_spec (by kernel_rfl))
            clear hsz hdep hout hun kg
            go_simp
            exact hK _ (by exact hI)
          · have kg := (hdep ⟨5, .guard⟩ (by simp) rfl).2 _ rfl _ rfl
            rw [if_pos (wanted_of rfl rfl rfl kg)]
            intro K hK
            have q47 := (hdep ⟨6, .data⟩ (by simp) rfl).2 _ rfl _ rfl
            have q47 : a.tmps.getD 47 undef = .int .i64 (qn : Int) := q47
            clear hsz hdep hout hun kg
            go_simp
            refine (C3.out _).mono ?_
            rintro e w3 ⟨rfl, rfl⟩
            exact hK _ hI
          · have kg := (hdep ⟨5, .guard⟩ (by simp) rfl).2 _ rfl _ rfl
            rw [if_pos (wanted_of rfl rfl rfl kg)]
            intro K hK
            have q10 := hout 10 (outB_spec (by kernel_rfl))
            exact wp_ld45 _ g10 2 rm rfl q10 (LB.ext G.out hI) (hK _ hI)
          · have kg := (hdep ⟨5, .guard⟩ (by simp) rfl).2 _ rfl _ rfl
            rw [if_pos (wanted_of rfl rfl rfl kg)]
            intro K hK
            have q49 := (hdep ⟨8, .data⟩ (by simp) rfl).2 _ rfl _ rfl
            have q49 : a.tmps.getD 49 undef = LV 2 rm := q49
            clear hsz hdep hout hun kg
            go_simp
            refine (C4.out _ hI).mono ?_
            rintro e w3 ⟨rfl, x3⟩
            exact hK _ (Ex.trans hI x3)
          · have kg := (hdep ⟨5, .guard⟩ (by simp) rfl).2 _ rfl _ rfl
            rw [if_pos (wanted_of rfl rfl rfl kg)]
            intro K hK
            have q48 := (hdep ⟨7, .data⟩ (by simp) rfl).2 _ rfl _ rfl
            have q48 : a.tmps.getD 48 undef = .int .i64 (Qn : Int) := q48
            have q50 := (hdep ⟨9, .data⟩ (by simp) rfl).2 _ rfl _ rfl
            have q50 : a.tmps.getD 50 undef = .int .i64 My := q50
            clear hsz hdep hout hun kg
            go_simp
            exact hK _ (by exact hI)
          · rw [if_pos (by rfl)]
            intro K hK
            have q46 := (hdep ⟨5, .data⟩ (by simp) rfl).2 _ rfl _ rfl
            have q46 : a.tmps.getD 46 undef = .bool false := q46
            have q51 := (hdep ⟨10, .data⟩ (by simp) rfl).2 _ rfl _ rfl
            have q51 : a.tmps.getD 51 undef = .bool true := q51
            clear hsz hdep hout hun
            go_simp
            exact hK _ (by exact hI)
        · intro l w4 hall hI
          subst hV
          simp only [putAll, List.getD_cons_zero, List.getD_cons_succ, Act.put, List.setIfInBounds_toArray, List.set_cons_zero, List.set_cons_succ]
          have bw4 : Ex w w4 := Ex.trans bw hI
          clear hI hall
          go_wp2_with (first | (with_reducible refine stop_load45 ?_) | (with_reducible refine stop_store45 ?_))
          refine (KN.out _).mono ?_
          rintro e w5 ⟨rfl, x5⟩
          have bw5 := Ex.trans bw4 x5
          go_wp2_with (first | (with_reducible refine stop_load45 ?_) | (with_reducible refine stop_store45 ?_))
          go_ret
          exact ⟨rfl, bw5⟩
      · have d2 : decide ((Qn : Int) < My) = false := decide_eq_false (by omega)
        have nz := MEET.out (by have := HMb.out; have := HPn.out; omega) (by have := HMy.out; have := HQn.out; omega)
        obtain ⟨z, hz⟩ : ∃ z, z = pn &&& qn := ⟨_, rfl⟩
        rw [← hz] at EN nz
        have EN2 := Lib.hid (show ((z : Int) == 0) = false by simp; omega)
        have EN3 := Lib.hid (show ((z : Int) != 0) = true by simp; omega)
        clear h1 h2 hz nz
        obtain ⟨V, hV⟩ : ∃ V : List Value, V = [.int .i64 (pn : Int), .int .i64 (P : Int), LV 1 rl, .int .i64 Mb, .bool false, .bool false, .int .i64 (qn : Int), .int .i64 (Qn : Int), LV 2 rm, .int .i64 My, .bool false, .bool false] := ⟨_, rfl⟩
        refine wp_region_val (fun i => V.getD i undef) (fun _ w2 => Ex wr w2) (by kernel_rfl) (by kernel_rfl) (by kernel_rfl) (fitB_spec (by kernel_rfl)) ?_ ?_ ?_
        · intro l h0
          exact (Below.refl _ _).drew
        · intro i o ho
          have hi : i < 12 := (Array.getElem?_eq_some_iff.1 ho).1
          have hi' : i = 0 ∨ i = 1 ∨ i = 2 ∨ i = 3 ∨ i = 4 ∨ i = 5 ∨ i = 6 ∨ i = 7 ∨ i = 8 ∨ i = 9 ∨ i = 10 ∨ i = 11 := by omega
          clear hi
          rcases hi' with rfl | rfl | rfl | rfl | rfl | rfl | rfl | rfl | rfl | rfl | rfl | rfl
          all_goals (simp only [List.getElem?_toArray, List.getElem?_cons_zero, List.getElem?_cons_succ, Option.some.injEq] at ho; subst ho hV; intro listed a w2 hI hsz hls hun hdep hout)
          · rw [if_pos (by rfl)]
            intro K hK
            have q14 := hout 14 (outB_spec (by kernel_rfl))
            clear hsz hdep hout hun
            go_simp
            exact hK _ (by exact hI)
          · rw [if_pos (by rfl)]
            intro K hK
            have q41 := (hdep ⟨0, .data⟩ (by simp) rfl).2 _ rfl _ rfl
            have q41 : a.tmps.getD 41 undef = .int .i64 (pn : Int) := q41
            clear hsz hdep hout hun
            go_simp
            refine (C1.out _).mono ?_
            rintro e w3 ⟨rfl, rfl⟩
            exact hK _ hI
          · rw [if_pos (by rfl)]
            intro K hK
            have q9 := hout 9 (outB_spec (by kernel_rfl))
            exact wp_ld45 _ g9 1 rl rfl q9 (LB.ext A.out hI) (hK _ hI)
          · rw [if_pos (by rfl)]
            intro K hK
            have q43 := (hdep ⟨2, .data⟩ (by simp) rfl).2 _ rfl _ rfl
            have q43 : a.tmps.getD 43 undef = LV 1 rl := q43
            clear hsz hdep hout hun
            go_simp
            refine (C2.out _ hI).mono ?_
            rintro e w3 ⟨rfl, x3⟩
            exact hK _ (Ex.trans hI x3)
          · rw [if_pos (by rfl)]
            intro K hK
            have q42 := (hdep ⟨1, .data⟩ (by simp) rfl).2 _ rfl _ rfl
            have q42 : a.tmps.getD 42 undef = .int .i64 (P : Int) := q42
            have q44 := (hdep ⟨3, .data⟩ (by simp) rfl).2 _ rfl _ rfl
            have q44 : a.tmps.getD 44 undef = .int .i64 Mb := q44
            clear hsz hdep hout hun
            go_simp
            exact hK _ (by exact hI)
          · rw [if_pos (by rfl)]
            intro K hK
            have q45 := (hdep ⟨4, .data⟩ (by simp) rfl).2 _ rfl _ rfl
            have q45 : a.tmps.getD 45 undef = .bool false := q45
            clear hsz hdep hout hun
            go_simp
            exact hK _ (by exact hI)
          · have kg := (hdep ⟨5, .guard⟩ (by simp) rfl).2 _ rfl _ rfl
            rw [if_pos (wanted_of rfl rfl rfl kg)]
            intro K hK
            have q15 := hout 15 (outB_spec (by kernel_rfl))
            clear hsz hdep hout hun kg
            go_simp
            exact hK _ (by exact hI)
          · have kg := (hdep ⟨5, .guard⟩ (by simp) rfl).2 _ rfl _ rfl
            rw [if_pos (wanted_of rfl rfl rfl kg)]
            intro K hK
            have q47 := (hdep ⟨6, .data⟩ (by simp) rfl).2 _ rfl _ rfl
            have q47 : a.tmps.getD 47 undef = .int .i64 (qn : Int) := q47
            clear hsz hdep hout hun kg
            go_simp
            refine (C3.out _).mono ?_
            rintro e w3 ⟨rfl, rfl⟩
            exact hK _ hI
          · have kg := (hdep ⟨5, .guard⟩ (by simp) rfl).2 _ rfl _ rfl
            rw [if_pos (wanted_of rfl rfl rfl kg)]
            intro K hK
            have q10 := hout 10 (outB_spec (by kernel_rfl))
            exact wp_ld45 _ g10 2 rm rfl q10 (LB.ext G.out hI) (hK _ hI)
          · have kg := (hdep ⟨5, .guard⟩ (by simp) rfl).2 _ rfl _ rfl
            rw [if_pos (wanted_of rfl rfl rfl kg)]
            intro K hK
            have q49 := (hdep ⟨8, .data⟩ (by simp) rfl).2 _ rfl _ rfl
            have q49 : a.tmps.getD 49 undef = LV 2 rm := q49
            clear hsz hdep hout hun kg
            go_simp
            refine (C4.out _ hI).mono ?_
            rintro e w3 ⟨rfl, x3⟩
            exact hK _ (Ex.trans hI x3)
          · have kg := (hdep ⟨5, .guard⟩ (by simp) rfl).2 _ rfl _ rfl
            rw [if_pos (wanted_of rfl rfl rfl kg)]
            intro K hK
            have q48 := (hdep ⟨7, .data⟩ (by simp) rfl).2 _ rfl _ rfl
            have q48 : a.tmps.getD 48 undef = .int .i64 (Qn : Int) := q48
            have q50 := (hdep ⟨9, .data⟩ (by simp) rfl).2 _ rfl _ rfl
            have q50 : a.tmps.getD 50 undef = .int .i64 My := q50
            clear hsz hdep hout hun kg
            go_simp
            exact hK _ (by exact hI)
          · rw [if_pos (by rfl)]
            intro K hK
            have q46 := (hdep ⟨5, .data⟩ (by simp) rfl).2 _ rfl _ rfl
            have q46 : a.tmps.getD 46 undef = .bool false := q46
            have q51 := (hdep ⟨10, .data⟩ (by simp) rfl).2 _ rfl _ rfl
            have q51 : a.tmps.getD 51 undef = .bool false := q51
            clear hsz hdep hout hun
            go_simp
            exact hK _ (by exact hI)
        · intro l w4 hall hI
          subst hV
          simp only [putAll, List.getD_cons_zero, List.getD_cons_succ, Act.put, List.setIfInBounds_toArray, List.set_cons_zero, List.set_cons_succ]
          have bw4 : Ex w w4 := Ex.trans bw hI
          clear hI hall
          have en := EN.out
          have en2 := EN2.out
          have en3 := EN3.out
          go_wp2_with (first | (with_reducible refine stop_load45 ?_) | (with_reducible refine stop_store45 ?_))
          refine (KN.out _).mono ?_
          rintro e w5 ⟨rfl, x5⟩
          have bw5 := Ex.trans bw4 x5
          go_wp2_with (first | (with_reducible refine stop_load45 ?_) | (with_reducible refine stop_store45 ?_))
          go_ret
          exact ⟨rfl, bw5⟩

end Go.Proofs.Ytgoiidpcdifojaa
