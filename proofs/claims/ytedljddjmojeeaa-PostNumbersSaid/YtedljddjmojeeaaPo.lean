/- an office and plain lists are the same: walked -/
import Derived.Test.YtedljddjmojeeaaPl
import Derived.Test.YtedljddjmojeeaaFlS
namespace Go.Proofs.Ytedljddjmojeeaa
open Go.RowKit
theorem firstO_take {l : List (Bool × Lc)} {k : Nat} {b : Bool} {c : Lc} (h : l[k]? = some (b, c)) : firstO (l.take (k + 1)) = if firstO (l.take k) < 0 ∧ b = false then (k : Int) else firstO (l.take k) := by
  have hk := (List.getElem?_eq_some_iff.1 h).1
  unfold firstO
  rw [List.take_add_one, h, List.findIdx?_append]
  cases hq : List.findIdx? (fun x => !x.1) (l.take k) with
  | some j => simp; omega
  | none =>
    cases b <;> simp [List.findIdx?_cons, Nat.min_eq_left (Nat.le_of_lt hk)]
theorem firstO_ge (l : List (Bool × Lc)) : -1 ≤ firstO l := by
  unfold firstO; split <;> omega
set_option maxHeartbeats 4000000 in
set_option maxRecDepth 100000 in
theorem same21 (O : Nat) (ls : List (Bool × Lt)) (w : World) (hof : OF w O (ctO ls)) (ad : Option Addr) (cap : Nat) (hl : Lp.In ad cap (ls.map (·.2)) w) (ad2 : Option Addr) (cap2 : Nat) (hb : BIn ad2 ls.length (fun i => (ls.map (·.1)).getD i false) w) :
    Calls Try.prog 58 #[.pointer (some ⟨O, 0, none⟩), .slice ad ls.length cap, .slice ad2 ls.length cap2] w fun e w' => e = .returned (.bool true) ∧ Ex w w' := by
  have h64 : ls.length ≤ 64 := by
    obtain ⟨rv, l2, h1, h2⟩ := hof
    have := h1.len
    rw [← ctO_len, h2, ctO_len] at this
    exact this
  obtain ⟨C, hC⟩ : ∃ C, C = ctO ls := ⟨_, rfl⟩
  have hCl : C.length = ls.length := by rw [hC, ctO_len]
  have hCm : C.map (·.2) = ls.map (fun x => x.2.ct) := by rw [hC]; unfold ctO; rw [List.map_map]; rfl
  rw [← hC] at hof
  have HC := Lib.hid hC
  have HOF := Lib.hid hof
  have HIN := Lib.hid hl
  have HIB := Lib.hid hb
  obtain ⟨m, hm⟩ : ∃ m, m = ls.length := ⟨_, rfl⟩
  rw [← hm] at h64 ⊢
  have HM := Lib.hid hm
  have HCL := Lib.hid hCl
  have HCM := Lib.hid hCm
  clear hC hof hl hb hm hCl hCm
  go_enter Try.func58, Try.ntmps58
  go_wp2_with (first | (with_reducible refine stop_load (t := 70) ?_) | (with_reducible refine stop_store (t := 70) ?_) | (with_reducible refine stop_build (t := 70) ?_))
  refine (all_any O C w HOF.out).mono ?_
  rintro e w1 ⟨ad3, cap3, xs, rfl, hxm, hin3, xx⟩
  have hxl : xs.length = m := by
    have := congrArg List.length hxm
    rw [List.length_map, List.length_map, HCL.out] at this
    rw [this, HM.out]
  rw [hxl]
  have HIN3 := Lib.hid hin3
  have HXM := Lib.hid hxm
  have HXL := Lib.hid hxl
  have BW := Lib.hid xx
  replace HOF := Lib.hid (HOF.out.ext xx)
  clear hxl hin3 hxm xx
  go_wp2_with (first | (with_reducible refine stop_load (t := 70) ?_) | (with_reducible refine stop_store (t := 70) ?_) | (with_reducible refine stop_build (t := 70) ?_))
  refine (lenO_any O C w1 HOF.out).mono ?_
  rintro e w2 ⟨rfl, hw⟩
  rw [HCL.out, ← HM.out]
  rw [← hw]
  clear hw
  go_wp2_with (first | (with_reducible refine stop_load (t := 70) ?_) | (with_reducible refine stop_store (t := 70) ?_) | (with_reducible refine stop_build (t := 70) ?_))
  go_loopw [7, 9] (fun fs i wr => ∃ (k : Nat) (F : Int), k ≤ m ∧ i = .int .i64 k ∧ fs = .int .i64 F ∧ Hid (F = firstO (C.take k)) ∧ Hid (Ex w1 wr)) (fun _ i _ => m - (intOf i).toNat)
  case atStart => exact ⟨0, -1, by omega, rfl, rfl, Lib.hid rfl, Lib.hid (Ex.refl _)⟩
  case round =>
    obtain ⟨k, F, hk, rfl, rfl, HF, BX⟩ := hrel
    by_cases hlt : k < m
    · have q0 : (0 : Int) ≤ (k : Int) := by omega
      have q1 : (k : Int) < (m : Int) := by omega
      obtain ⟨x, hx⟩ : ∃ x, ls[k]? = some x := ⟨_, List.getElem?_eq_getElem (by rw [← HM.out]; exact hlt)⟩
      have hcx : C[k]? = some (x.1, x.2.ct) := by rw [HC.out]; unfold ctO; rw [List.getElem?_map, hx]; rfl
      have HCX := Lib.hid hcx
      obtain ⟨y3, hy3⟩ : ∃ y, xs[k]? = some y := ⟨_, List.getElem?_eq_getElem (by rw [HXL.out]; exact hlt)⟩
      have hy3c : y3.ct = x.2.ct := by
        have h1 : (xs.map Lt.ct)[k]? = some y3.ct := by rw [List.getElem?_map, hy3]; rfl
        rw [HXM.out, HCM.out, List.getElem?_map, hx] at h1
        exact (Option.some.inj h1).symm
      obtain ⟨ab, o, had, ha, hc⟩ := HIN.out.read (by rw [List.length_map, ← HM.out]; omega)
      subst had
      obtain ⟨ab3, o3, had3, ha3, hc3⟩ := HIN3.out.read (by rw [HXL.out]; omega)
      subst had3
      obtain ⟨ab2, o2, had2, ha2, hc2⟩ := HIB.out.2 (by rw [← HM.out]; omega)
      subst had2
      have hxm : (ls.map (·.2))[k]? = some x.2 := by rw [List.getElem?_map, hx]; rfl
      have XR := Lib.hid (hc k x.2 hxm)
      have XI := Lib.hid (HIN.out.ins k x.2 hxm)
      have YR := Lib.hid (hc3 k y3 hy3)
      have YI := Lib.hid (HIN3.out.ins k y3 hy3)
      have YC := Lib.hid hy3c
      have XB : Hid (w.cell? ⟨ab2, o2 + k, none⟩ = some (.bool x.1)) := Lib.hid (by rw [hc2 k (by rw [← HM.out]; omega)]; show some (Value.bool ((ls.map (·.1)).getD k false)) = _; rw [show (ls.map (·.1)).getD k false = x.1 from by rw [List.getD_eq_getElem?_getD, List.getElem?_map, hx]; rfl])
      have HA := Lib.hid ha
      have HA2 := Lib.hid ha2
      have HA3 := Lib.hid ha3
      clear hc hc2 hc3 ha ha2 ha3 hxm hy3c hx hy3 hcx
      go_wp2_with (first | (with_reducible refine stop_load (t := 70) ?_) | (with_reducible refine stop_store (t := 70) ?_) | (with_reducible refine stop_build (t := 70) ?_))
      refine (at_yes O C k x.1 x.2.ct wr (HOF.out.ext BX.out) HCX.out).mono ?_
      rintro e w2 ⟨x1, rfl, hx1c, hx1n, x2⟩
      have X1 := Lib.hid hx1n
      have X1C := Lib.hid hx1c
      replace BX := Lib.hid (Ex.trans BX.out x2)
      clear hx1n hx1c x2
      go_wp2_with (first | (with_reducible refine stop_load (t := 70) ?_) | (with_reducible refine stop_store (t := 70) ?_) | (with_reducible refine stop_build (t := 70) ?_))
      (with_reducible refine ⟨?_⟩); (with_reducible refine at_any ?_ ?_); (focus go_simp); refine fun K0 hK => st_lx _ _ w2.heap.size 70 Try.sizeLt x1 rfl rfl rfl X1.out.1 (Bk.new rfl _ _) (by rfl) (fun w5 hd9 ho => hK _ _ ?_)
      clear hK
      have xx : Ex w2 w5 := ho.below w2.heap.size (Nat.le_refl _) w2 (Ex.alloc w2 _)
      replace BX := Lib.hid (Ex.trans BX.out xx)
      replace X1 := Lib.hid (X1.out.ext xx)
      obtain ⟨g, hg⟩ : ∃ g, g = w2.heap.size := ⟨_, rfl⟩
      rw [← hg] at hd9 ⊢
      have HG := Lib.hid hd9
      clear xx ho hd9 hg
      go_wp2_with fail
      obtain ⟨T, hT⟩ : ∃ T : List Sa, T = [.is (.bool true), .is (.bool false), .is (.bool false), .is (x1.V), .is (.slice (some ⟨ab, o, none⟩) m cap), .is (.int .i64 k), .is (.pointer (some ⟨ab, o + k * 4, none⟩)), .is (x.2.V), .is (.bool true), .is (.bool false), .is (.bool false), .is (.bool false), .is (.slice (some ⟨ab3, o3, none⟩) m cap3), .is (.int .i64 k), .is (.pointer (some ⟨ab3, o3 + k * 4, none⟩)), .is (y3.V), .is (.slice (some ⟨ab, o, none⟩) m cap), .is (.int .i64 k), .is (.pointer (some ⟨ab, o + k * 4, none⟩)), .is (x.2.V), .is (.bool true), .is (.bool false), .is (.bool false), .is (.bool false), .is (.pointer (some ⟨O, 0, none⟩)), .is (.int .i64 k), .is (.bool x.1), .is (.slice (some ⟨ab2, o2, none⟩) m cap2), .is (.int .i64 k), .is (.pointer (some ⟨ab2, o2 + k, none⟩)), .is (.bool x.1), .is (.bool false)] := ⟨_, rfl⟩
      refine wp_region_flow 32 (saPhi T) (by kernel_rfl) rfl (by kernel_rfl) (by kernel_rfl) (by kernel_rfl) (saPhi_stable T) (fitB_spec (by kernel_rfl)) ?_ ?_
      · intro i o hi ho
        have hi' : i = 0 ∨ i = 1 ∨ i = 2 ∨ i = 3 ∨ i = 4 ∨ i = 5 ∨ i = 6 ∨ i = 7 ∨ i = 8 ∨ i = 9 ∨ i = 10 ∨ i = 11 ∨ i = 12 ∨ i = 13 ∨ i = 14 ∨ i = 15 ∨ i = 16 ∨ i = 17 ∨ i = 18 ∨ i = 19 ∨ i = 20 ∨ i = 21 ∨ i = 22 ∨ i = 23 ∨ i = 24 ∨ i = 25 ∨ i = 26 ∨ i = 27 ∨ i = 28 ∨ i = 29 ∨ i = 30 ∨ i = 31 := by omega
        clear hi
        rcases hi' with rfl | rfl | rfl | rfl | rfl | rfl | rfl | rfl | rfl | rfl | rfl | rfl | rfl | rfl | rfl | rfl | rfl | rfl | rfl | rfl | rfl | rfl | rfl | rfl | rfl | rfl | rfl | rfl | rfl | rfl | rfl | rfl
        all_goals (simp only [List.getElem?_toArray, List.getElem?_cons_zero, List.getElem?_cons_succ, Option.some.injEq] at ho; subst ho; intro a w2 hx hsz hdep hout)
        · rw [if_pos (by rfl)]
          intro K hK
          have q11 := hout 11 (outB_spec (by kernel_rfl))
          exact wp_mv _ rfl (hK _ _ (Ex.refl _) (by rw [hT]; exact q11))
        · rw [if_pos (by rfl)]
          intro K hK
          obtain ⟨v40, h40, k40⟩ := hdep ⟨0, .data⟩ (by simp) rfl _ rfl
          have q40 := k40 _ rfl
          clear k40
          rw [hT] at h40
          obtain rfl : v40 = .bool true := h40
          rw [Array.getD_eq_getD_getElem?] at q40
          clear hsz hdep hout
          go_simp
          exact hK _ _ (Ex.refl _) (by rw [hT]; rfl)
        · rw [if_pos (by rfl)]
          intro K hK
          obtain ⟨v41, h41, k41⟩ := hdep ⟨1, .data⟩ (by simp) rfl _ rfl
          have q41 := k41 _ rfl
          clear k41
          rw [hT] at h41
          obtain rfl : v41 = .bool false := h41
          exact wp_mv _ rfl (hK _ _ (Ex.refl _) (by rw [hT]; exact q41))
        · obtain ⟨vg, hvg, kg⟩ := hdep ⟨2, .guard⟩ (by simp) rfl _ rfl
          rw [hT] at hvg
          obtain rfl : vg = .bool false := hvg
          rw [if_pos (wanted_of rfl rfl rfl (kg _ rfl))]
          clear kg
          intro K hK
          have q10 := hout 10 (outB_spec (by kernel_rfl))
          exact ld_lx (.tmp 10) g 70 x1 rfl q10 (HG.out.ext (Ex.trans (show Ex w5 (World.drew w5) from (Below.refl _ _).drew) hx)) (hK _ _ (Ex.refl _) (by rw [hT]; rfl))
        · obtain ⟨vg, hvg, kg⟩ := hdep ⟨2, .guard⟩ (by simp) rfl _ rfl
          rw [hT] at hvg
          obtain rfl : vg = .bool false := hvg
          rw [if_pos (wanted_of rfl rfl rfl (kg _ rfl))]
          clear kg
          intro K hK
          have q1 := hout 1 (outB_spec (by kernel_rfl))
          exact wp_mv _ rfl (hK _ _ (Ex.refl _) (by rw [hT]; exact q1))
        · obtain ⟨vg, hvg, kg⟩ := hdep ⟨2, .guard⟩ (by simp) rfl _ rfl
          rw [hT] at hvg
          obtain rfl : vg = .bool false := hvg
          rw [if_pos (wanted_of rfl rfl rfl (kg _ rfl))]
          clear kg
          intro K hK
          have q9 := hout 9 (outB_spec (by kernel_rfl))
          exact wp_mv _ rfl (hK _ _ (Ex.refl _) (by rw [hT]; exact q9))
        · obtain ⟨vg, hvg, kg⟩ := hdep ⟨2, .guard⟩ (by simp) rfl _ rfl
          rw [hT] at hvg
          obtain rfl : vg = .bool false := hvg
          rw [if_pos (wanted_of rfl rfl rfl (kg _ rfl))]
          clear kg
          intro K hK
          obtain ⟨v44, h44, k44⟩ := hdep ⟨4, .data⟩ (by simp) rfl _ rfl
          have q44 := k44 _ rfl
          clear k44
          rw [hT] at h44
          obtain rfl : v44 = .slice (some ⟨ab, o, none⟩) m cap := h44
          obtain ⟨v45, h45, k45⟩ := hdep ⟨5, .data⟩ (by simp) rfl _ rfl
          have q45 := k45 _ rfl
          clear k45
          rw [hT] at h45
          obtain rfl : v45 = .int .i64 k := h45
          rw [Array.getD_eq_getD_getElem?] at q44
          rw [Array.getD_eq_getD_getElem?] at q45
          clear hsz hdep hout
          go_simp
          exact hK _ _ (Ex.refl _) (by rw [hT]; rfl)
        · obtain ⟨vg, hvg, kg⟩ := hdep ⟨2, .guard⟩ (by simp) rfl _ rfl
          rw [hT] at hvg
          obtain rfl : vg = .bool false := hvg
          rw [if_pos (wanted_of rfl rfl rfl (kg _ rfl))]
          clear kg
          intro K hK
          obtain ⟨v46, h46, k46⟩ := hdep ⟨6, .data⟩ (by simp) rfl _ rfl
          have q46 := k46 _ rfl
          clear k46
          rw [hT] at h46
          obtain rfl : v46 = .pointer (some ⟨ab, o + k * 4, none⟩) := h46
          exact ld_lr (.tmp 46) ab (o + k * 4) x.2 rfl q46 (fun j u hu => (Below.cell (p := ⟨_, _, none⟩) (Ex.trans BW.out (Ex.trans BX.out (Ex.trans (show Ex w5 (World.drew w5) from (Below.refl _ _).drew) hx))) HA.out).trans (XR.out j u hu)) (hK _ _ (Ex.refl _) (by rw [hT]; rfl))
        · obtain ⟨vg, hvg, kg⟩ := hdep ⟨2, .guard⟩ (by simp) rfl _ rfl
          rw [hT] at hvg
          obtain rfl : vg = .bool false := hvg
          rw [if_pos (wanted_of rfl rfl rfl (kg _ rfl))]
          clear kg
          intro K hK
          obtain ⟨v43, h43, k43⟩ := hdep ⟨3, .data⟩ (by simp) rfl _ rfl
          have q43 := k43 _ rfl
          clear k43
          rw [hT] at h43
          obtain rfl : v43 = x1.V := h43
          obtain ⟨v47, h47, k47⟩ := hdep ⟨7, .data⟩ (by simp) rfl _ rfl
          have q47 := k47 _ rfl
          clear k47
          rw [hT] at h47
          obtain rfl : v47 = x.2.V := h47
          rw [Array.getD_eq_getD_getElem?] at q43
          rw [Array.getD_eq_getD_getElem?] at q47
          clear hsz hdep hout
          go_simp
          refine (letter_same x1 x.2 X1C.out w2 X1.out.1 XI.out.ok (X1.out.ext (Ex.trans (show Ex w5 (World.drew w5) from (Below.refl _ _).drew) hx)).2.1 (XI.out.ext (Ex.trans BW.out (Ex.trans BX.out (Ex.trans (show Ex w5 (World.drew w5) from (Below.refl _ _).drew) hx)))).b).mono ?_
          rintro e w3 ⟨rfl, x3⟩
          exact hK _ _ x3 (by rw [hT]; rfl)
        · obtain ⟨vg, hvg, kg⟩ := hdep ⟨2, .guard⟩ (by simp) rfl _ rfl
          rw [hT] at hvg
          obtain rfl : vg = .bool false := hvg
          rw [if_pos (wanted_of rfl rfl rfl (kg _ rfl))]
          clear kg
          intro K hK
          obtain ⟨v48, h48, k48⟩ := hdep ⟨8, .data⟩ (by simp) rfl _ rfl
          have q48 := k48 _ rfl
          clear k48
          rw [hT] at h48
          obtain rfl : v48 = .bool true := h48
          rw [Array.getD_eq_getD_getElem?] at q48
          clear hsz hdep hout
          go_simp
          exact hK _ _ (Ex.refl _) (by rw [hT]; rfl)
        · rw [if_pos (by rfl)]
          intro K hK
          obtain ⟨v42, h42, k42⟩ := hdep ⟨2, .data⟩ (by simp) rfl _ rfl
          have q42 := k42 _ rfl
          clear k42
          rw [hT] at h42
          obtain rfl : v42 = .bool false := h42
          obtain ⟨v49, h49, k49⟩ := hdep ⟨9, .data⟩ (by simp) rfl _ rfl
          have q49 := k49 _ rfl
          clear k49
          rw [hT] at h49
          obtain rfl : v49 = .bool false := h49
          rw [Array.getD_eq_getD_getElem?] at q42
          rw [Array.getD_eq_getD_getElem?] at q49
          clear hsz hdep hout
          go_simp
          exact hK _ _ (Ex.refl _) (by rw [hT]; rfl)
        · rw [if_pos (by rfl)]
          intro K hK
          obtain ⟨v50, h50, k50⟩ := hdep ⟨10, .data⟩ (by simp) rfl _ rfl
          have q50 := k50 _ rfl
          clear k50
          rw [hT] at h50
          obtain rfl : v50 = .bool false := h50
          exact wp_mv _ rfl (hK _ _ (Ex.refl _) (by rw [hT]; exact q50))
        · obtain ⟨vg, hvg, kg⟩ := hdep ⟨11, .guard⟩ (by simp) rfl _ rfl
          rw [hT] at hvg
          obtain rfl : vg = .bool false := hvg
          rw [if_pos (wanted_of rfl rfl rfl (kg _ rfl))]
          clear kg
          intro K hK
          have q8 := hout 8 (outB_spec (by kernel_rfl))
          exact wp_mv _ rfl (hK _ _ (Ex.refl _) (by rw [hT]; exact q8))
        · obtain ⟨vg, hvg, kg⟩ := hdep ⟨11, .guard⟩ (by simp) rfl _ rfl
          rw [hT] at hvg
          obtain rfl : vg = .bool false := hvg
          rw [if_pos (wanted_of rfl rfl rfl (kg _ rfl))]
          clear kg
          intro K hK
          have q9 := hout 9 (outB_spec (by kernel_rfl))
          exact wp_mv _ rfl (hK _ _ (Ex.refl _) (by rw [hT]; exact q9))
        · obtain ⟨vg, hvg, kg⟩ := hdep ⟨11, .guard⟩ (by simp) rfl _ rfl
          rw [hT] at hvg
          obtain rfl : vg = .bool false := hvg
          rw [if_pos (wanted_of rfl rfl rfl (kg _ rfl))]
          clear kg
          intro K hK
          obtain ⟨v52, h52, k52⟩ := hdep ⟨12, .data⟩ (by simp) rfl _ rfl
          have q52 := k52 _ rfl
          clear k52
          rw [hT] at h52
          obtain rfl : v52 = .slice (some ⟨ab3, o3, none⟩) m cap3 := h52
          obtain ⟨v53, h53, k53⟩ := hdep ⟨13, .data⟩ (by simp) rfl _ rfl
          have q53 := k53 _ rfl
          clear k53
          rw [hT] at h53
          obtain rfl : v53 = .int .i64 k := h53
          rw [Array.getD_eq_getD_getElem?] at q52
          rw [Array.getD_eq_getD_getElem?] at q53
          clear hsz hdep hout
          go_simp
          exact hK _ _ (Ex.refl _) (by rw [hT]; rfl)
        · obtain ⟨vg, hvg, kg⟩ := hdep ⟨11, .guard⟩ (by simp) rfl _ rfl
          rw [hT] at hvg
          obtain rfl : vg = .bool false := hvg
          rw [if_pos (wanted_of rfl rfl rfl (kg _ rfl))]
          clear kg
          intro K hK
          obtain ⟨v54, h54, k54⟩ := hdep ⟨14, .data⟩ (by simp) rfl _ rfl
          have q54 := k54 _ rfl
          clear k54
          rw [hT] at h54
          obtain rfl : v54 = .pointer (some ⟨ab3, o3 + k * 4, none⟩) := h54
          exact ld_lr (.tmp 54) ab3 (o3 + k * 4) y3 rfl q54 (fun j u hu => (Below.cell (p := ⟨_, _, none⟩) (Ex.trans BX.out (Ex.trans (show Ex w5 (World.drew w5) from (Below.refl _ _).drew) hx)) HA3.out).trans (YR.out j u hu)) (hK _ _ (Ex.refl _) (by rw [hT]; rfl))
        · obtain ⟨vg, hvg, kg⟩ := hdep ⟨11, .guard⟩ (by simp) rfl _ rfl
          rw [hT] at hvg
          obtain rfl : vg = .bool false := hvg
          rw [if_pos (wanted_of rfl rfl rfl (kg _ rfl))]
          clear kg
          intro K hK
          have q1 := hout 1 (outB_spec (by kernel_rfl))
          exact wp_mv _ rfl (hK _ _ (Ex.refl _) (by rw [hT]; exact q1))
        · obtain ⟨vg, hvg, kg⟩ := hdep ⟨11, .guard⟩ (by simp) rfl _ rfl
          rw [hT] at hvg
          obtain rfl : vg = .bool false := hvg
          rw [if_pos (wanted_of rfl rfl rfl (kg _ rfl))]
          clear kg
          intro K hK
          have q9 := hout 9 (outB_spec (by kernel_rfl))
          exact wp_mv _ rfl (hK _ _ (Ex.refl _) (by rw [hT]; exact q9))
        · obtain ⟨vg, hvg, kg⟩ := hdep ⟨11, .guard⟩ (by simp) rfl _ rfl
          rw [hT] at hvg
          obtain rfl : vg = .bool false := hvg
          rw [if_pos (wanted_of rfl rfl rfl (kg _ rfl))]
          clear kg
          intro K hK
          obtain ⟨v56, h56, k56⟩ := hdep ⟨16, .data⟩ (by simp) rfl _ rfl
          have q56 := k56 _ rfl
          clear k56
          rw [hT] at h56
          obtain rfl : v56 = .slice (some ⟨ab, o, none⟩) m cap := h56
          obtain ⟨v57, h57, k57⟩ := hdep ⟨17, .data⟩ (by simp) rfl _ rfl
          have q57 := k57 _ rfl
          clear k57
          rw [hT] at h57
          obtain rfl : v57 = .int .i64 k := h57
          rw [Array.getD_eq_getD_getElem?] at q56
          rw [Array.getD_eq_getD_getElem?] at q57
          clear hsz hdep hout
          go_simp
          exact hK _ _ (Ex.refl _) (by rw [hT]; rfl)
        · obtain ⟨vg, hvg, kg⟩ := hdep ⟨11, .guard⟩ (by simp) rfl _ rfl
          rw [hT] at hvg
          obtain rfl : vg = .bool false := hvg
          rw [if_pos (wanted_of rfl rfl rfl (kg _ rfl))]
          clear kg
          intro K hK
          obtain ⟨v58, h58, k58⟩ := hdep ⟨18, .data⟩ (by simp) rfl _ rfl
          have q58 := k58 _ rfl
          clear k58
          rw [hT] at h58
          obtain rfl : v58 = .pointer (some ⟨ab, o + k * 4, none⟩) := h58
          exact ld_lr (.tmp 58) ab (o + k * 4) x.2 rfl q58 (fun j u hu => (Below.cell (p := ⟨_, _, none⟩) (Ex.trans BW.out (Ex.trans BX.out (Ex.trans (show Ex w5 (World.drew w5) from (Below.refl _ _).drew) hx))) HA.out).trans (XR.out j u hu)) (hK _ _ (Ex.refl _) (by rw [hT]; rfl))
        · obtain ⟨vg, hvg, kg⟩ := hdep ⟨11, .guard⟩ (by simp) rfl _ rfl
          rw [hT] at hvg
          obtain rfl : vg = .bool false := hvg
          rw [if_pos (wanted_of rfl rfl rfl (kg _ rfl))]
          clear kg
          intro K hK
          obtain ⟨v55, h55, k55⟩ := hdep ⟨15, .data⟩ (by simp) rfl _ rfl
          have q55 := k55 _ rfl
          clear k55
          rw [hT] at h55
          obtain rfl : v55 = y3.V := h55
          obtain ⟨v59, h59, k59⟩ := hdep ⟨19, .data⟩ (by simp) rfl _ rfl
          have q59 := k59 _ rfl
          clear k59
          rw [hT] at h59
          obtain rfl : v59 = x.2.V := h59
          rw [Array.getD_eq_getD_getElem?] at q55
          rw [Array.getD_eq_getD_getElem?] at q59
          clear hsz hdep hout
          go_simp
          refine (letter_same y3 x.2 YC.out w2 YI.out.ok XI.out.ok (YI.out.ext (Ex.trans BX.out (Ex.trans (show Ex w5 (World.drew w5) from (Below.refl _ _).drew) hx))).b (XI.out.ext (Ex.trans BW.out (Ex.trans BX.out (Ex.trans (show Ex w5 (World.drew w5) from (Below.refl _ _).drew) hx)))).b).mono ?_
          rintro e w3 ⟨rfl, x3⟩
          exact hK _ _ x3 (by rw [hT]; rfl)
        · obtain ⟨vg, hvg, kg⟩ := hdep ⟨11, .guard⟩ (by simp) rfl _ rfl
          rw [hT] at hvg
          obtain rfl : vg = .bool false := hvg
          rw [if_pos (wanted_of rfl rfl rfl (kg _ rfl))]
          clear kg
          intro K hK
          obtain ⟨v60, h60, k60⟩ := hdep ⟨20, .data⟩ (by simp) rfl _ rfl
          have q60 := k60 _ rfl
          clear k60
          rw [hT] at h60
          obtain rfl : v60 = .bool true := h60
          rw [Array.getD_eq_getD_getElem?] at q60
          clear hsz hdep hout
          go_simp
          exact hK _ _ (Ex.refl _) (by rw [hT]; rfl)
        · rw [if_pos (by rfl)]
          intro K hK
          obtain ⟨v51, h51, k51⟩ := hdep ⟨11, .data⟩ (by simp) rfl _ rfl
          have q51 := k51 _ rfl
          clear k51
          rw [hT] at h51
          obtain rfl : v51 = .bool false := h51
          obtain ⟨v61, h61, k61⟩ := hdep ⟨21, .data⟩ (by simp) rfl _ rfl
          have q61 := k61 _ rfl
          clear k61
          rw [hT] at h61
          obtain rfl : v61 = .bool false := h61
          rw [Array.getD_eq_getD_getElem?] at q51
          rw [Array.getD_eq_getD_getElem?] at q61
          clear hsz hdep hout
          go_simp
          exact hK _ _ (Ex.refl _) (by rw [hT]; rfl)
        · rw [if_pos (by rfl)]
          intro K hK
          obtain ⟨v62, h62, k62⟩ := hdep ⟨22, .data⟩ (by simp) rfl _ rfl
          have q62 := k62 _ rfl
          clear k62
          rw [hT] at h62
          obtain rfl : v62 = .bool false := h62
          exact wp_mv _ rfl (hK _ _ (Ex.refl _) (by rw [hT]; exact q62))
        · obtain ⟨vg, hvg, kg⟩ := hdep ⟨23, .guard⟩ (by simp) rfl _ rfl
          rw [hT] at hvg
          obtain rfl : vg = .bool false := hvg
          rw [if_pos (wanted_of rfl rfl rfl (kg _ rfl))]
          clear kg
          intro K hK
          have q0 := hout 0 (outB_spec (by kernel_rfl))
          exact wp_mv _ rfl (hK _ _ (Ex.refl _) (by rw [hT]; exact q0))
        · obtain ⟨vg, hvg, kg⟩ := hdep ⟨23, .guard⟩ (by simp) rfl _ rfl
          rw [hT] at hvg
          obtain rfl : vg = .bool false := hvg
          rw [if_pos (wanted_of rfl rfl rfl (kg _ rfl))]
          clear kg
          intro K hK
          have q9 := hout 9 (outB_spec (by kernel_rfl))
          exact wp_mv _ rfl (hK _ _ (Ex.refl _) (by rw [hT]; exact q9))
        · obtain ⟨vg, hvg, kg⟩ := hdep ⟨23, .guard⟩ (by simp) rfl _ rfl
          rw [hT] at hvg
          obtain rfl : vg = .bool false := hvg
          rw [if_pos (wanted_of rfl rfl rfl (kg _ rfl))]
          clear kg
          intro K hK
          obtain ⟨v64, h64, k64⟩ := hdep ⟨24, .data⟩ (by simp) rfl _ rfl
          have q64 := k64 _ rfl
          clear k64
          rw [hT] at h64
          obtain rfl : v64 = .pointer (some ⟨O, 0, none⟩) := h64
          obtain ⟨v65, h65, k65⟩ := hdep ⟨25, .data⟩ (by simp) rfl _ rfl
          have q65 := k65 _ rfl
          clear k65
          rw [hT] at h65
          obtain rfl : v65 = .int .i64 k := h65
          rw [Array.getD_eq_getD_getElem?] at q64
          rw [Array.getD_eq_getD_getElem?] at q65
          clear hsz hdep hout
          go_simp
          refine (held_any O C k (x.1, x.2.ct) w2 (HOF.out.ext (Ex.trans BX.out (Ex.trans (show Ex w5 (World.drew w5) from (Below.refl _ _).drew) hx))) HCX.out).mono ?_
          rintro e w3 ⟨rfl, x3⟩
          exact hK _ _ x3 (by rw [hT]; rfl)
        · obtain ⟨vg, hvg, kg⟩ := hdep ⟨23, .guard⟩ (by simp) rfl _ rfl
          rw [hT] at hvg
          obtain rfl : vg = .bool false := hvg
          rw [if_pos (wanted_of rfl rfl rfl (kg _ rfl))]
          clear kg
          intro K hK
          have q2 := hout 2 (outB_spec (by kernel_rfl))
          exact wp_mv _ rfl (hK _ _ (Ex.refl _) (by rw [hT]; exact q2))
        · obtain ⟨vg, hvg, kg⟩ := hdep ⟨23, .guard⟩ (by simp) rfl _ rfl
          rw [hT] at hvg
          obtain rfl : vg = .bool false := hvg
          rw [if_pos (wanted_of rfl rfl rfl (kg _ rfl))]
          clear kg
          intro K hK
          have q9 := hout 9 (outB_spec (by kernel_rfl))
          exact wp_mv _ rfl (hK _ _ (Ex.refl _) (by rw [hT]; exact q9))
        · obtain ⟨vg, hvg, kg⟩ := hdep ⟨23, .guard⟩ (by simp) rfl _ rfl
          rw [hT] at hvg
          obtain rfl : vg = .bool false := hvg
          rw [if_pos (wanted_of rfl rfl rfl (kg _ rfl))]
          clear kg
          intro K hK
          obtain ⟨v67, h67, k67⟩ := hdep ⟨27, .data⟩ (by simp) rfl _ rfl
          have q67 := k67 _ rfl
          clear k67
          rw [hT] at h67
          obtain rfl : v67 = .slice (some ⟨ab2, o2, none⟩) m cap2 := h67
          obtain ⟨v68, h68, k68⟩ := hdep ⟨28, .data⟩ (by simp) rfl _ rfl
          have q68 := k68 _ rfl
          clear k68
          rw [hT] at h68
          obtain rfl : v68 = .int .i64 k := h68
          rw [Array.getD_eq_getD_getElem?] at q67
          rw [Array.getD_eq_getD_getElem?] at q68
          clear hsz hdep hout
          go_simp
          exact hK _ _ (Ex.refl _) (by rw [hT]; rfl)
        · obtain ⟨vg, hvg, kg⟩ := hdep ⟨23, .guard⟩ (by simp) rfl _ rfl
          rw [hT] at hvg
          obtain rfl : vg = .bool false := hvg
          rw [if_pos (wanted_of rfl rfl rfl (kg _ rfl))]
          clear kg
          intro K hK
          obtain ⟨v69, h69, k69⟩ := hdep ⟨29, .data⟩ (by simp) rfl _ rfl
          have q69 := k69 _ rfl
          clear k69
          rw [hT] at h69
          obtain rfl : v69 = .pointer (some ⟨ab2, o2 + k, none⟩) := h69
          have c1 := (Below.cell (p := ⟨ab2, o2 + k, none⟩) (Ex.trans BW.out (Ex.trans BX.out (Ex.trans (show Ex w5 (World.drew w5) from (Below.refl _ _).drew) hx))) HA2.out).trans XB.out
          rw [Array.getD_eq_getD_getElem?] at q69
          clear hsz hdep hout
          go_simp
          exact hK _ _ (Ex.refl _) (by rw [hT]; rfl)
        · obtain ⟨vg, hvg, kg⟩ := hdep ⟨23, .guard⟩ (by simp) rfl _ rfl
          rw [hT] at hvg
          obtain rfl : vg = .bool false := hvg
          rw [if_pos (wanted_of rfl rfl rfl (kg _ rfl))]
          clear kg
          intro K hK
          obtain ⟨v66, h66, k66⟩ := hdep ⟨26, .data⟩ (by simp) rfl _ rfl
          have q66 := k66 _ rfl
          clear k66
          rw [hT] at h66
          obtain rfl : v66 = .bool x.1 := h66
          obtain ⟨v70, h70, k70⟩ := hdep ⟨30, .data⟩ (by simp) rfl _ rfl
          have q70 := k70 _ rfl
          clear k70
          rw [hT] at h70
          obtain rfl : v70 = .bool x.1 := h70
          rw [Array.getD_eq_getD_getElem?] at q66
          rw [Array.getD_eq_getD_getElem?] at q70
          clear hsz hdep hout
          go_simp
          exact hK _ _ (Ex.refl _) (by rw [hT]; first | rfl | (cases x.1 <;> rfl) | (simp; rfl))
      · intro a w2 hx hdef hsz hdone hout
        obtain ⟨v63, h63, k63⟩ := hdone 23 _ (by omega) rfl
        have q63 := k63 _ rfl
        clear k63
        rw [hT] at h63
        obtain rfl : v63 = .bool false := h63
        obtain ⟨v71, h71, k71⟩ := hdone 31 _ (by omega) rfl
        have q71 := k71 _ rfl
        clear k71
        rw [hT] at h71
        obtain rfl : v71 = .bool false := h71
        clear hdone hT
        have hA := arr_range a.tmps 110 hsz
        change a.tmps = #[a.tmps[0]?.getD undef, a.tmps[1]?.getD undef, a.tmps[2]?.getD undef, a.tmps[3]?.getD undef, a.tmps[4]?.getD undef, a.tmps[5]?.getD undef, a.tmps[6]?.getD undef, a.tmps[7]?.getD undef, a.tmps[8]?.getD undef, a.tmps[9]?.getD undef, a.tmps[10]?.getD undef, a.tmps[11]?.getD undef, a.tmps[12]?.getD undef, a.tmps[13]?.getD undef, a.tmps[14]?.getD undef, a.tmps[15]?.getD undef, a.tmps[16]?.getD undef, a.tmps[17]?.getD undef, a.tmps[18]?.getD undef, a.tmps[19]?.getD undef, a.tmps[20]?.getD undef, a.tmps[21]?.getD undef, a.tmps[22]?.getD undef, a.tmps[23]?.getD undef, a.tmps[24]?.getD undef, a.tmps[25]?.getD undef, a.tmps[26]?.getD undef, a.tmps[27]?.getD undef, a.tmps[28]?.getD undef, a.tmps[29]?.getD undef, a.tmps[30]?.getD undef, a.tmps[31]?.getD undef, a.tmps[32]?.getD undef, a.tmps[33]?.getD undef, a.tmps[34]?.getD undef, a.tmps[35]?.getD undef, a.tmps[36]?.getD undef, a.tmps[37]?.getD undef, a.tmps[38]?.getD undef, a.tmps[39]?.getD undef, a.tmps[40]?.getD undef, a.tmps[41]?.getD undef, a.tmps[42]?.getD undef, a.tmps[43]?.getD undef, a.tmps[44]?.getD undef, a.tmps[45]?.getD undef, a.tmps[46]?.getD undef, a.tmps[47]?.getD undef, a.tmps[48]?.getD undef, a.tmps[49]?.getD undef, a.tmps[50]?.getD undef, a.tmps[51]?.getD undef, a.tmps[52]?.getD undef, a.tmps[53]?.getD undef, a.tmps[54]?.getD undef, a.tmps[55]?.getD undef, a.tmps[56]?.getD undef, a.tmps[57]?.getD undef, a.tmps[58]?.getD undef, a.tmps[59]?.getD undef, a.tmps[60]?.getD undef, a.tmps[61]?.getD undef, a.tmps[62]?.getD undef, a.tmps[63]?.getD undef, a.tmps[64]?.getD undef, a.tmps[65]?.getD undef, a.tmps[66]?.getD undef, a.tmps[67]?.getD undef, a.tmps[68]?.getD undef, a.tmps[69]?.getD undef, a.tmps[70]?.getD undef, a.tmps[71]?.getD undef, a.tmps[72]?.getD undef, a.tmps[73]?.getD undef, a.tmps[74]?.getD undef, a.tmps[75]?.getD undef, a.tmps[76]?.getD undef, a.tmps[77]?.getD undef, a.tmps[78]?.getD undef, a.tmps[79]?.getD undef, a.tmps[80]?.getD undef, a.tmps[81]?.getD undef, a.tmps[82]?.getD undef, a.tmps[83]?.getD undef, a.tmps[84]?.getD undef, a.tmps[85]?.getD undef, a.tmps[86]?.getD undef, a.tmps[87]?.getD undef, a.tmps[88]?.getD undef, a.tmps[89]?.getD undef, a.tmps[90]?.getD undef, a.tmps[91]?.getD undef, a.tmps[92]?.getD undef, a.tmps[93]?.getD undef, a.tmps[94]?.getD undef, a.tmps[95]?.getD undef, a.tmps[96]?.getD undef, a.tmps[97]?.getD undef, a.tmps[98]?.getD undef, a.tmps[99]?.getD undef, a.tmps[100]?.getD undef, a.tmps[101]?.getD undef, a.tmps[102]?.getD undef, a.tmps[103]?.getD undef, a.tmps[104]?.getD undef, a.tmps[105]?.getD undef, a.tmps[106]?.getD undef, a.tmps[107]?.getD undef, a.tmps[108]?.getD undef, a.tmps[109]?.getD undef] at hA
        have e0 := hout 0 (fun i o _ h => outB_spec (by kernel_rfl) i o h)
        have e1 := hout 1 (fun i o _ h => outB_spec (by kernel_rfl) i o h)
        have e2 := hout 2 (fun i o _ h => outB_spec (by kernel_rfl) i o h)
        have e3 := hout 3 (fun i o _ h => outB_spec (by kernel_rfl) i o h)
        have e4 := hout 4 (fun i o _ h => outB_spec (by kernel_rfl) i o h)
        have e5 := hout 5 (fun i o _ h => outB_spec (by kernel_rfl) i o h)
        have e6 := hout 6 (fun i o _ h => outB_spec (by kernel_rfl) i o h)
        have e7 := hout 7 (fun i o _ h => outB_spec (by kernel_rfl) i o h)
        have e8 := hout 8 (fun i o _ h => outB_spec (by kernel_rfl) i o h)
        have e9 := hout 9 (fun i o _ h => outB_spec (by kernel_rfl) i o h)
        have e10 := hout 10 (fun i o _ h => outB_spec (by kernel_rfl) i o h)
        have e11 := hout 11 (fun i o _ h => outB_spec (by kernel_rfl) i o h)
        have e12 := hout 12 (fun i o _ h => outB_spec (by kernel_rfl) i o h)
        have e13 := hout 13 (fun i o _ h => outB_spec (by kernel_rfl) i o h)
        have e14 := hout 14 (fun i o _ h => outB_spec (by kernel_rfl) i o h)
        have e15 := hout 15 (fun i o _ h => outB_spec (by kernel_rfl) i o h)
        have e16 := hout 16 (fun i o _ h => outB_spec (by kernel_rfl) i o h)
        have e17 := hout 17 (fun i o _ h => outB_spec (by kernel_rfl) i o h)
        have e18 := hout 18 (fun i o _ h => outB_spec (by kernel_rfl) i o h)
        have e19 := hout 19 (fun i o _ h => outB_spec (by kernel_rfl) i o h)
        have e20 := hout 20 (fun i o _ h => outB_spec (by kernel_rfl) i o h)
        have e21 := hout 21 (fun i o _ h => outB_spec (by kernel_rfl) i o h)
        have e22 := hout 22 (fun i o _ h => outB_spec (by kernel_rfl) i o h)
        have e23 := hout 23 (fun i o _ h => outB_spec (by kernel_rfl) i o h)
        have e24 := hout 24 (fun i o _ h => outB_spec (by kernel_rfl) i o h)
        have e25 := hout 25 (fun i o _ h => outB_spec (by kernel_rfl) i o h)
        have e26 := hout 26 (fun i o _ h => outB_spec (by kernel_rfl) i o h)
        have e27 := hout 27 (fun i o _ h => outB_spec (by kernel_rfl) i o h)
        have e28 := hout 28 (fun i o _ h => outB_spec (by kernel_rfl) i o h)
        have e29 := hout 29 (fun i o _ h => outB_spec (by kernel_rfl) i o h)
        have e30 := hout 30 (fun i o _ h => outB_spec (by kernel_rfl) i o h)
        have e31 := hout 31 (fun i o _ h => outB_spec (by kernel_rfl) i o h)
        have e32 := hout 32 (fun i o _ h => outB_spec (by kernel_rfl) i o h)
        have e33 := hout 33 (fun i o _ h => outB_spec (by kernel_rfl) i o h)
        have e34 := hout 34 (fun i o _ h => outB_spec (by kernel_rfl) i o h)
        have e35 := hout 35 (fun i o _ h => outB_spec (by kernel_rfl) i o h)
        have e36 := hout 36 (fun i o _ h => outB_spec (by kernel_rfl) i o h)
        have e37 := hout 37 (fun i o _ h => outB_spec (by kernel_rfl) i o h)
        have e38 := hout 38 (fun i o _ h => outB_spec (by kernel_rfl) i o h)
        have e39 := hout 39 (fun i o _ h => outB_spec (by kernel_rfl) i o h)
        have e73 := hout 73 (fun i o _ h => outB_spec (by kernel_rfl) i o h)
        have e74 := hout 74 (fun i o _ h => outB_spec (by kernel_rfl) i o h)
        have e75 := hout 75 (fun i o _ h => outB_spec (by kernel_rfl) i o h)
        have e76 := hout 76 (fun i o _ h => outB_spec (by kernel_rfl) i o h)
        have e77 := hout 77 (fun i o _ h => outB_spec (by kernel_rfl) i o h)
        have e78 := hout 78 (fun i o _ h => outB_spec (by kernel_rfl) i o h)
        have e79 := hout 79 (fun i o _ h => outB_spec (by kernel_rfl) i o h)
        have e80 := hout 80 (fun i o _ h => outB_spec (by kernel_rfl) i o h)
        have e81 := hout 81 (fun i o _ h => outB_spec (by kernel_rfl) i o h)
        have e82 := hout 82 (fun i o _ h => outB_spec (by kernel_rfl) i o h)
        have e83 := hout 83 (fun i o _ h => outB_spec (by kernel_rfl) i o h)
        have e84 := hout 84 (fun i o _ h => outB_spec (by kernel_rfl) i o h)
        have e85 := hout 85 (fun i o _ h => outB_spec (by kernel_rfl) i o h)
        have e86 := hout 86 (fun i o _ h => outB_spec (by kernel_rfl) i o h)
        have e87 := hout 87 (fun i o _ h => outB_spec (by kernel_rfl) i o h)
        have e88 := hout 88 (fun i o _ h => outB_spec (by kernel_rfl) i o h)
        have e89 := hout 89 (fun i o _ h => outB_spec (by kernel_rfl) i o h)
        have e90 := hout 90 (fun i o _ h => outB_spec (by kernel_rfl) i o h)
        have e91 := hout 91 (fun i o _ h => outB_spec (by kernel_rfl) i o h)
        have e92 := hout 92 (fun i o _ h => outB_spec (by kernel_rfl) i o h)
        have e93 := hout 93 (fun i o _ h => outB_spec (by kernel_rfl) i o h)
        have e94 := hout 94 (fun i o _ h => outB_spec (by kernel_rfl) i o h)
        have e95 := hout 95 (fun i o _ h => outB_spec (by kernel_rfl) i o h)
        have e96 := hout 96 (fun i o _ h => outB_spec (by kernel_rfl) i o h)
        have e97 := hout 97 (fun i o _ h => outB_spec (by kernel_rfl) i o h)
        have e98 := hout 98 (fun i o _ h => outB_spec (by kernel_rfl) i o h)
        have e99 := hout 99 (fun i o _ h => outB_spec (by kernel_rfl) i o h)
        have e100 := hout 100 (fun i o _ h => outB_spec (by kernel_rfl) i o h)
        have e101 := hout 101 (fun i o _ h => outB_spec (by kernel_rfl) i o h)
        have e102 := hout 102 (fun i o _ h => outB_spec (by kernel_rfl) i o h)
        have e103 := hout 103 (fun i o _ h => outB_spec (by kernel_rfl) i o h)
        have e104 := hout 104 (fun i o _ h => outB_spec (by kernel_rfl) i o h)
        have e105 := hout 105 (fun i o _ h => outB_spec (by kernel_rfl) i o h)
        have e106 := hout 106 (fun i o _ h => outB_spec (by kernel_rfl) i o h)
        have e107 := hout 107 (fun i o _ h => outB_spec (by kernel_rfl) i o h)
        have e108 := hout 108 (fun i o _ h => outB_spec (by kernel_rfl) i o h)
        have e109 := hout 109 (fun i o _ h => outB_spec (by kernel_rfl) i o h)
        simp only [Array.getD_eq_getD_getElem?, List.getElem?_toArray, List.getElem?_cons_zero, List.getElem?_cons_succ, Option.getD_some] at e0 e1 e2 e3 e4 e5 e6 e7 e8 e9 e10 e11 e12 e13 e14 e15 e16 e17 e18 e19 e20 e21 e22 e23 e24 e25 e26 e27 e28 e29 e30 e31 e32 e33 e34 e35 e36 e37 e38 e39 e73 e74 e75 e76 e77 e78 e79 e80 e81 e82 e83 e84 e85 e86 e87 e88 e89 e90 e91 e92 e93 e94 e95 e96 e97 e98 e99 e100 e101 e102 e103 e104 e105 e106 e107 e108 e109
        rw [e0, e1, e2, e3, e4, e5, e6, e7, e8, e9, e10, e11, e12, e13, e14, e15, e16, e17, e18, e19, e20, e21, e22, e23, e24, e25, e26, e27, e28, e29, e30, e31, e32, e33, e34, e35, e36, e37, e38, e39, e73, e74, e75, e76, e77, e78, e79, e80, e81, e82, e83, e84, e85, e86, e87, e88, e89, e90, e91, e92, e93, e94, e95, e96, e97, e98, e99, e100, e101, e102, e103, e104, e105, e106, e107, e108, e109] at hA
        clear e0 e1 e2 e3 e4 e5 e6 e7 e8 e9 e10 e11 e12 e13 e14 e15 e16 e17 e18 e19 e20 e21 e22 e23 e24 e25 e26 e27 e28 e29 e30 e31 e32 e33 e34 e35 e36 e37 e38 e39 e73 e74 e75 e76 e77 e78 e79 e80 e81 e82 e83 e84 e85 e86 e87 e88 e89 e90 e91 e92 e93 e94 e95 e96 e97 e98 e99 e100 e101 e102 e103 e104 e105 e106 e107 e108 e109 hout
        have hds2 : a.defers = [] := hdef
        have ea : a = ⟨a.tmps, a.defers⟩ := rfl
        rw [Array.getD_eq_getD_getElem?] at q63
        rw [Array.getD_eq_getD_getElem?] at q71
        rw [hA, hds2, q63, q71] at ea
        clear hA hds2 q63 q71 hdef
        generalize a.tmps[40]?.getD undef = y40 at ea
        generalize a.tmps[41]?.getD undef = y41 at ea
        generalize a.tmps[42]?.getD undef = y42 at ea
        generalize a.tmps[43]?.getD undef = y43 at ea
        generalize a.tmps[44]?.getD undef = y44 at ea
        generalize a.tmps[45]?.getD undef = y45 at ea
        generalize a.tmps[46]?.getD undef = y46 at ea
        generalize a.tmps[47]?.getD undef = y47 at ea
        generalize a.tmps[48]?.getD undef = y48 at ea
        generalize a.tmps[49]?.getD undef = y49 at ea
        generalize a.tmps[50]?.getD undef = y50 at ea
        generalize a.tmps[51]?.getD undef = y51 at ea
        generalize a.tmps[52]?.getD undef = y52 at ea
        generalize a.tmps[53]?.getD undef = y53 at ea
        generalize a.tmps[54]?.getD undef = y54 at ea
        generalize a.tmps[55]?.getD undef = y55 at ea
        generalize a.tmps[56]?.getD undef = y56 at ea
        generalize a.tmps[57]?.getD undef = y57 at ea
        generalize a.tmps[58]?.getD undef = y58 at ea
        generalize a.tmps[59]?.getD undef = y59 at ea
        generalize a.tmps[60]?.getD undef = y60 at ea
        generalize a.tmps[61]?.getD undef = y61 at ea
        generalize a.tmps[62]?.getD undef = y62 at ea
        generalize a.tmps[64]?.getD undef = y64 at ea
        generalize a.tmps[65]?.getD undef = y65 at ea
        generalize a.tmps[66]?.getD undef = y66 at ea
        generalize a.tmps[67]?.getD undef = y67 at ea
        generalize a.tmps[68]?.getD undef = y68 at ea
        generalize a.tmps[69]?.getD undef = y69 at ea
        generalize a.tmps[70]?.getD undef = y70 at ea
        generalize a.tmps[72]?.getD undef = y72 at ea
        clear hsz
        subst ea
        have bx : Ex w5 w2 := Ex.trans (show Ex w5 (World.drew w5) from (Below.refl _ _).drew) hx
        unfold wpOp
        simp only [List.getElem?_toArray, List.getElem?_cons_zero, List.getElem?_cons_succ]
        rw [if_pos (by rfl)]
        left
        have HCF := Lib.hid (firstO_take HCX.out)
        replace BX := Lib.hid (Ex.trans BX.out bx)
        have c0 := (Below.cell (p := ⟨ab2, o2 + k, none⟩) (Ex.trans BW.out BX.out) HA2.out).trans XB.out
        obtain ⟨xb, xl⟩ := x
        simp only at c0 HCF
        clear bx hx
        go_simp
        by_cases hf : F < 0
        · cases xb
          · go_wp2_with (first | (with_reducible refine stop_load (t := 70) ?_) | (with_reducible refine stop_store (t := 70) ?_) | (with_reducible refine stop_build (t := 70) ?_))
            (first | (refine ⟨?_, ?measure⟩; (repeat apply Exists.intro); refine ⟨?rel, rfl⟩) | refine ⟨?rel, ?measure⟩)
            case rel => exact ⟨k + 1, k, by omega, by go_num, by go_num, Lib.hid (by rw [HCF.out, if_pos ⟨by rw [← HF.out]; exact hf, rfl⟩]), BX⟩
            case measure => simp [intOf]; omega
          · go_wp2_with (first | (with_reducible refine stop_load (t := 70) ?_) | (with_reducible refine stop_store (t := 70) ?_) | (with_reducible refine stop_build (t := 70) ?_))
            (first | (refine ⟨?_, ?measure⟩; (repeat apply Exists.intro); refine ⟨?rel, rfl⟩) | refine ⟨?rel, ?measure⟩)
            case rel => exact ⟨k + 1, F, by omega, by go_num, rfl, Lib.hid (by rw [HCF.out, if_neg (by simp)]; exact HF.out), BX⟩
            case measure => simp [intOf]; omega
        · go_wp2_with (first | (with_reducible refine stop_load (t := 70) ?_) | (with_reducible refine stop_store (t := 70) ?_) | (with_reducible refine stop_build (t := 70) ?_))
          (first | (refine ⟨?_, ?measure⟩; (repeat apply Exists.intro); refine ⟨?rel, rfl⟩) | refine ⟨?rel, ?measure⟩)
          case rel => exact ⟨k + 1, F, by omega, by go_num, rfl, Lib.hid (by rw [HCF.out, if_neg (by rw [← HF.out]; omega)]; exact HF.out), BX⟩
          case measure => simp [intOf]; omega
    · obtain rfl : k = m := by omega
      have q1 : ¬ (k : Int) < (k : Int) := by omega
      have hff : F = firstO C := by rw [HF.out, List.take_of_length_le (by rw [HCL.out, ← HM.out]; exact Nat.le_refl _)]
      have HFF := Lib.hid hff
      clear hff
      go_wp2_with (first | (with_reducible refine stop_load (t := 70) ?_) | (with_reducible refine stop_store (t := 70) ?_) | (with_reducible refine stop_build (t := 70) ?_))
      refine (at_none O C (k : Int) wr (HOF.out.ext BX.out) (Or.inr (by rw [HCL.out, ← HM.out]; omega))).mono ?_
      rintro e w2 ⟨x1, rfl, hx1c, hx1n, x2⟩
      have X1 := Lib.hid hx1n
      replace BX := Lib.hid (Ex.trans BX.out x2)
      clear hx1n hx1c x2
      go_wp2_with (first | (with_reducible refine stop_load (t := 70) ?_) | (with_reducible refine stop_store (t := 70) ?_) | (with_reducible refine stop_build (t := 70) ?_))
      (with_reducible refine ⟨?_⟩); (with_reducible refine at_any ?_ ?_); (focus go_simp); refine fun K0 hK => st_lx _ _ w2.heap.size 70 Try.sizeLt x1 rfl rfl rfl X1.out.1 (Bk.new rfl _ _) (by rfl) (fun w5 hd9 ho => hK _ _ ?_)
      clear hK
      have xx : Ex w2 w5 := ho.below w2.heap.size (Nat.le_refl _) w2 (Ex.alloc w2 _)
      replace BX := Lib.hid (Ex.trans BX.out xx)
      clear xx ho hd9
      go_wp2_with (first | (with_reducible refine stop_load (t := 70) ?_) | (with_reducible refine stop_store (t := 70) ?_) | (with_reducible refine stop_build (t := 70) ?_))
      refine (first_any O C w5 (HOF.out.ext BX.out)).mono ?_
      rintro e w6 ⟨rfl, xx⟩
      rw [← HFF.out]
      replace BX := Lib.hid (Ex.trans BX.out xx)
      clear xx
      go_wp2_with (first | (with_reducible refine stop_load (t := 70) ?_) | (with_reducible refine stop_store (t := 70) ?_) | (with_reducible refine stop_build (t := 70) ?_))
      refine (held_none O C (-1) w6 (HOF.out.ext BX.out) (Or.inl (by decide))).mono ?_
      rintro e w7 ⟨rfl, xx⟩
      replace BX := Lib.hid (Ex.trans BX.out xx)
      clear xx
      go_wp2_with (first | (with_reducible refine stop_load (t := 70) ?_) | (with_reducible refine stop_store (t := 70) ?_) | (with_reducible refine stop_build (t := 70) ?_))
      refine (held_none O C (k : Int) w7 (HOF.out.ext BX.out) (Or.inr (by rw [HCL.out, ← HM.out]; omega))).mono ?_
      rintro e w8 ⟨rfl, xx⟩
      replace BX := Lib.hid (Ex.trans BX.out xx)
      clear xx
      go_wp2_with fail
      go_ret
      exact ⟨rfl, Ex.trans BW.out BX.out⟩
end Go.Proofs.Ytedljddjmojeeaa
