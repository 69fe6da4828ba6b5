/- Sn -/
import Derived.Test.YtmjfnpmnhehnkaaQat
set_option maxRecDepth 100000
set_option maxHeartbeats 16000000
namespace Go.Proofs.Ytmjfnpmnhehnkaa
open Go.RowKit
theorem id_row {w : World} {g off : Nat} {y : Vt} (h : w.rangeAt g off y.C) (hy : y.Ok) (hg : g < w.heap.size) : (Pt.mk (some ⟨g, off, none⟩) 4 y.id).In w w.heap.size :=
 ⟨by show y.id.length ≤ 4; have := hy.idN; omega, (fun h => by cases h), fun _ => ⟨g, off, rfl, hg, fun i hi => by
  have hi' : i < y.id.length := hi
  rw [h i (.int .u8 (y.id[i].toNat : Int)) (by
   unfold Vt.C
   simp only [List.append_assoc]
   rw [List.getElem?_append_left (by rw [byteCells_len]; exact hi')]
   exact byteCells_get y.id i hi')]
  simp [List.getD, hi']⟩⟩
theorem rrow_any (ad : Option Addr) (cap : Nat) (xs : List Vt) (hcap : cap ≤ 9223372036854775807) (w : World) (hin : Vp.In ad cap xs w) (hvi : ∀ (i : Nat) (x : Vt), xs[i]? = some x → VI w x) : Calls Try.prog 124 #[.slice ad xs.length cap] w (BPost (Rising xs) w) := by
 have HIN := Hi hin
 have HVI := Hi hvi
 obtain ⟨n, hn⟩ : ∃ n, n = xs.length := ⟨_, rfl⟩
 have HN := Hi hn
 rw [← hn]
 have hnb : n ≤ 9223372036854775807 := by rw [hn]; exact Nat.le_trans hin.len hcap
 clear hn hin hvi hcap
 by_cases h4 : n ≤ 4
 rotate_left
 ·have h4i : (4 : Int) < (n : Int) := by omega
  go_enter Try.func124, Try.ntmps124
  go_wp2_with fail
  go_ret
  exact ⟨false, rfl, ⟨(fun h => by cases h), fun hr => absurd hr (fun hr => h4 (by rw [HN.out]; exact hr.1))⟩, Ex.refl _⟩
 have h4i : ¬ (4 : Int) < (n : Int) := by omega
 go_enter Try.func124, Try.ntmps124
 go_wp2_with (first | ((with_reducible refine so4 [36, 1000+36, 32, 1000+32, 4000+36] ?_ ?_); (focus rfl)) | (with_reducible refine stop_bs (t := 37) ?_) | (with_reducible refine stop_app ?_))
 go_loopw [10] (fun i wr => ∃ k : Nat, k ≤ n ∧ i = .int .i64 k ∧ Hid (∀ j, j < k → ∃ x, xs[j]? = some x ∧ x.ct.right = true ∧ ∀ i, j = i + 1 → idF xs i < idF xs j) ∧ Hid (Ex w wr)) (fun i _ => n - (intOf i).toNat)
 case atStart => exact ⟨0, by omega, rfl, Hi (fun j hj => absurd hj (Nat.not_lt_zero j)), Hi (Ex.refl _)⟩
 obtain ⟨k, hk, rfl, HG, BW⟩ := hrel
 by_cases hlt : k < n
 rotate_left
 ·obtain rfl : k = n := by omega
  have q1 : ¬ (k : Int) < (k : Int) := by omega
  have HRI : Hid (Rising xs) := Hi ⟨by rw [← HN.out]; exact h4, fun i x hx => by
   have hi := (List.getElem?_eq_some_iff.1 hx).1
   obtain ⟨z, hz, h1, _⟩ := HG.out i (by rw [HN.out]; exact hi)
   rw [hx] at hz; cases hz; exact h1, fun i hi => by
   obtain ⟨z, hz, _, h1⟩ := HG.out (i + 1) (by rw [HN.out]; exact hi)
   exact h1 i rfl⟩
  go_wp2_with (first | ((with_reducible refine so4 [36, 1000+36, 32, 1000+32, 4000+36] ?_ ?_); (focus rfl)) | (with_reducible refine stop_bs (t := 37) ?_) | (with_reducible refine stop_app ?_))
  go_ret
  exact ⟨true, rfl, ⟨fun _ => HRI.out, fun _ => rfl⟩, BW.out⟩
 have q0 : (0 : Int) ≤ (k : Int) := by omega
 have q1 : (k : Int) < (n : Int) := by omega
 obtain ⟨x, hx⟩ : ∃ x, xs[k]? = some x := ⟨_, List.getElem?_eq_getElem (by rw [← HN.out]; omega)⟩
 obtain ⟨ab, o, rfl, hab2, hra⟩ := (HIN.out.ext BW.out).read (by rw [← HN.out]; omega)
 have XR := Hi (hra k x hx)
 have XV := Hi (HVI.out k x hx)
 have HXK := Hi hx
 have HRA := Hi hra
 have HAB := Hi hab2
 clear hra hab2 hx
 go_wp2_with (first | ((with_reducible refine so4 [36, 1000+36, 32, 1000+32, 4000+36] ?_ ?_); (focus rfl)) | (with_reducible refine stop_bs (t := 37) ?_) | (with_reducible refine stop_app ?_))
 refine at9 (by go_simp) fun K0 hK => ld_vr _ ab (o + k * 42) x XV.out.ok rfl rfl XR.out (hK _ _ ?_)
 clear hK
 go_wp2_with (first | ((with_reducible refine so4 [36, 1000+36, 32, 1000+32, 4000+36] ?_ ?_); (focus rfl)) | (with_reducible refine stop_bs (t := 37) ?_) | (with_reducible refine stop_app ?_))
 refine at9 (by go_simp) fun K0 hK => st_v _ _ wr.heap.size x rfl rfl rfl XV.out.ok (Bk.new rfl _ _) (by rfl) (fun w2 hd ho => hK _ _ ?_)
 clear hK
 have xx : Ex wr w2 := ho.below wr.heap.size (Nat.le_refl _) wr (Ex.alloc wr _)
 have HD := Hi hd
 have XX := Hi xx
 replace BW := Hi (Ex.trans BW.out xx)
 obtain ⟨g, hg⟩ : ∃ g, g = wr.heap.size := ⟨_, rfl⟩
 rw [← hg] at HD ⊢
 have HAB2 := Hi (Nat.lt_of_lt_of_le HAB.out xx.sz')
 clear xx hd ho hg XR
 obtain ⟨br, hbr⟩ : ∃ b, b = x.ct.right := ⟨_, rfl⟩
 have HBR := Hi hbr
 clear hbr
 cases br
 ·skip
  go_wp2_with fail
  obtain ⟨T, hT⟩ : ∃ T : List (Rw w2.heap.size), T = [.is (x.V), .is (.bool false), .is (.bool true), .is (.bool true), .is (undef), .is (undef), .is (undef), .is (undef), .is (undef), .is (undef), .is (undef), .is (undef), .is (undef), .is (undef), .is (undef), .is (undef), .is (undef), .is (undef), .is (.bool true)] := ⟨_, rfl⟩
  have HTY : T.map Rw.tys = ([[], [], [], [], [], [], [], [], [], [], [], [], [], [], [], [], [], [], []] : List (List Nat)) := by rw [hT]; rfl
  refine wp_region_gen (JW w2.heap.size w2 [0] T ([[], [], [], [], [], [], [], [], [], [], [], [], [], [], [], [], [], [], []] : List (List Nat)) ([none, none, none, none, none, none, none, none, none, none, none, none, none, none, none, none, none, none, none] : List (Option Nat)) ([] : List (Nat × Nat)) 100000) (by kernel_rfl) (by kernel_rfl) (by kernel_rfl) (fitB_spec (by kernel_rfl)) (fun listed f h => JW.start (Nat.le_refl _) listed f h) ?_ ?_
  ·intro i o ho
   have hi : i < 19 := (Array.getElem?_eq_some_iff.1 ho).1
   have hi' : i = 0 ∨ i = 1 ∨ i = 2 ∨ i = 3 ∨ i = 4 ∨ i = 5 ∨ i = 6 ∨ i = 7 ∨ i = 8 ∨ i = 9 ∨ i = 10 ∨ i = 11 ∨ i = 12 ∨ i = 13 ∨ i = 14 ∨ i = 15 ∨ i = 16 ∨ i = 17 ∨ i = 18 := by omega
   clear hi
   rcases hi' with rfl | rfl | rfl | rfl | rfl | rfl | rfl | rfl | rfl | rfl | rfl | rfl | rfl | rfl | rfl | rfl | rfl | rfl | rfl
   all_goals (simp only [List.getElem?_toArray, List.getElem?_cons_zero, List.getElem?_cons_succ, Option.some.injEq] at ho; subst ho; intro listed f a w3 hJ hsz hls hun hdep hout hlat; first | (rw [if_pos (by rfl)]; intro K hK) | skip)
   ·have q4 := hout 4 ob
    exact ld_v (.tmp 4) g x rfl q4 (HD.out.ext hJ.ext.below) (hK _ _ (hJ.pl HTY hls hT rfl))
   ·have q15 := hJ.iv hT (hdep ⟨0, .data⟩ (by simp) rfl) rfl rfl _ rfl _ rfl
    clear hsz hdep hout hlat
    go_simp
    refine (vright_any x w3 (XV.out.ext (Ex.trans BW.out hJ.ext.below))).mono ?_
    rintro e w4 ⟨rfl, x3⟩
    rw [← HBR.out]
    exact hK _ _ (hJ.plain HTY (by rw [hls]; decide) x3 (by rw [hT]; rfl) nh)
   ·have q16 := hJ.iv hT (hdep ⟨1, .data⟩ (by simp) rfl) rfl rfl _ rfl _ rfl
    clear hsz hdep hout hlat
    go_simp
    exact hK _ _ (hJ.pa HTY hls hT)
   ·have q17 := hJ.iw hT (hdep ⟨2, .data⟩ (by simp) rfl) rfl rfl _ rfl _ rfl
    exact wp_mw _ rfl q17 (hK _ _ (hJ.pl HTY hls hT rfl))
   iterate 3
    focus
     have kg := hJ.iw hT (hdep ⟨3, .guard⟩ (by simp) rfl) rfl rfl _ rfl _ rfl
     rw [if_neg (not_wanted rfl rfl rfl kg (by decide))]
     exact hJ.pl HTY hls hT (by first | exact trivial | rfl)
   iterate 10
    focus
     have kg := hJ.iw hT (hdep ⟨6, .guard⟩ (by simp) rfl) rfl rfl _ rfl _ rfl
     rw [if_neg (not_wanted_x rfl rfl rfl kg (by simp [undef]))]
     exact hJ.pl HTY hls hT (by first | exact trivial | rfl)
   ·have kg := hJ.iw hT (hdep ⟨3, .guard⟩ (by simp) rfl) rfl rfl _ rfl _ rfl
    rw [if_neg (not_wanted rfl rfl rfl kg (by decide))]
    exact hJ.pl HTY hls hT (by first | exact trivial | rfl)
   have q18 := hJ.iv hT (hdep ⟨3, .data⟩ (by simp) rfl) rfl rfl _ rfl _ rfl
   have q32 := hJ.iv hT (hdep ⟨17, .data⟩ (by simp) rfl) rfl rfl _ rfl _ rfl
   clear hsz hdep hout hlat
   go_simp
   exact hK _ _ (hJ.pa HTY hls hT)
  intro listed f w3 hall hJ
  have f18 : f 18 = .bool true := by
   have h := hJ.vals 18 (hall 18 (by simp)) (fun c hc => by have hc : none = some c := hc; cases hc)
   rw [hT] at h; exact h
  have xk := hJ.ext
  simp only [putAll, Act.put, List.setIfInBounds_toArray, List.set_cons_zero, List.set_cons_succ, Nat.zero_add, Nat.reduceAdd]
  rw [f18]
  clear f18
  clear hJ hall hT HTY
  replace BW := Hi (Ex.trans BW.out (show Ex w2 w3 from xk.below))
  clear xk
  go_wp2_with fail
  go_ret
  exact ⟨false, rfl, ⟨(fun h => by cases h), fun hr => absurd hr (fun hr => by have h1 := hr.2.1 k x HXK.out; rw [← HBR.out] at h1; cases h1)⟩, BW.out⟩
 rcases k with _ | k1
 ·skip
  go_wp2_with fail
  obtain ⟨T, hT⟩ : ∃ T : List (Rw w2.heap.size), T = [.is (x.V), .is (.bool true), .is (.bool false), .is (.bool false), .is (.int .i64 (0 : Nat)), .is (.bool false), .is (.bool false), .is (undef), .is (undef), .is (undef), .is (undef), .is (undef), .is (undef), .is (undef), .is (undef), .is (undef), .is (undef), .is (.bool false), .is (.bool false)] := ⟨_, rfl⟩
  have HTY : T.map Rw.tys = ([[], [], [], [], [], [], [], [], [], [], [], [], [], [], [], [], [], [], []] : List (List Nat)) := by rw [hT]; rfl
  refine wp_region_gen (JW w2.heap.size w2 [0] T ([[], [], [], [], [], [], [], [], [], [], [], [], [], [], [], [], [], [], []] : List (List Nat)) ([none, none, none, none, none, none, none, none, none, none, none, none, none, none, none, none, none, none, none] : List (Option Nat)) ([] : List (Nat × Nat)) 100000) (by kernel_rfl) (by kernel_rfl) (by kernel_rfl) (fitB_spec (by kernel_rfl)) (fun listed f h => JW.start (Nat.le_refl _) listed f h) ?_ ?_
  ·intro i o ho
   have hi : i < 19 := (Array.getElem?_eq_some_iff.1 ho).1
   have hi' : i = 0 ∨ i = 1 ∨ i = 2 ∨ i = 3 ∨ i = 4 ∨ i = 5 ∨ i = 6 ∨ i = 7 ∨ i = 8 ∨ i = 9 ∨ i = 10 ∨ i = 11 ∨ i = 12 ∨ i = 13 ∨ i = 14 ∨ i = 15 ∨ i = 16 ∨ i = 17 ∨ i = 18 := by omega
   clear hi
   rcases hi' with rfl | rfl | rfl | rfl | rfl | rfl | rfl | rfl | rfl | rfl | rfl | rfl | rfl | rfl | rfl | rfl | rfl | rfl | rfl
   all_goals (simp only [List.getElem?_toArray, List.getElem?_cons_zero, List.getElem?_cons_succ, Option.some.injEq] at ho; subst ho; intro listed f a w3 hJ hsz hls hun hdep hout hlat; first | (rw [if_pos (by rfl)]; intro K hK) | skip)
   ·have q4 := hout 4 ob
    exact ld_v (.tmp 4) g x rfl q4 (HD.out.ext hJ.ext.below) (hK _ _ (hJ.pl HTY hls hT rfl))
   ·have q15 := hJ.iv hT (hdep ⟨0, .data⟩ (by simp) rfl) rfl rfl _ rfl _ rfl
    clear hsz hdep hout hlat
    go_simp
    refine (vright_any x w3 (XV.out.ext (Ex.trans BW.out hJ.ext.below))).mono ?_
    rintro e w4 ⟨rfl, x3⟩
    rw [← HBR.out]
    exact hK _ _ (hJ.plain HTY (by rw [hls]; decide) x3 (by rw [hT]; rfl) nh)
   ·have q16 := hJ.iv hT (hdep ⟨1, .data⟩ (by simp) rfl) rfl rfl _ rfl _ rfl
    clear hsz hdep hout hlat
    go_simp
    exact hK _ _ (hJ.pa HTY hls hT)
   ·have q17 := hJ.iw hT (hdep ⟨2, .data⟩ (by simp) rfl) rfl rfl _ rfl _ rfl
    exact wp_mw _ rfl q17 (hK _ _ (hJ.pl HTY hls hT rfl))
   ·have kg := hJ.iw hT (hdep ⟨3, .guard⟩ (by simp) rfl) rfl rfl _ rfl _ rfl
    rw [if_pos (wanted_of rfl rfl rfl kg)]
    clear kg
    intro K hK
    have q3 := hout 3 ob
    exact wp_mw _ rfl q3 (hK _ _ (hJ.pl HTY hls hT rfl))
   ·have kg := hJ.iw hT (hdep ⟨3, .guard⟩ (by simp) rfl) rfl rfl _ rfl _ rfl
    rw [if_pos (wanted_of rfl rfl rfl kg)]
    clear kg
    intro K hK
    have q19 := hJ.iv hT (hdep ⟨4, .data⟩ (by simp) rfl) rfl rfl _ rfl _ rfl
    clear hsz hdep hout hlat
    go_simp
    exact hK _ _ (hJ.pa HTY hls hT)
   ·have kg := hJ.iw hT (hdep ⟨3, .guard⟩ (by simp) rfl) rfl rfl _ rfl _ rfl
    rw [if_pos (wanted_of rfl rfl rfl kg)]
    clear kg
    intro K hK
    have q20 := hJ.iw hT (hdep ⟨5, .data⟩ (by simp) rfl) rfl rfl _ rfl _ rfl
    exact wp_mw _ rfl q20 (hK _ _ (hJ.pl HTY hls hT rfl))
   iterate 10
    focus
     have kg := hJ.iw hT (hdep ⟨6, .guard⟩ (by simp) rfl) rfl rfl _ rfl _ rfl
     rw [if_neg (not_wanted rfl rfl rfl kg (by decide))]
     exact hJ.pl HTY hls hT (by first | exact trivial | rfl)
   ·have kg := hJ.iw hT (hdep ⟨3, .guard⟩ (by simp) rfl) rfl rfl _ rfl _ rfl
    rw [if_pos (wanted_of rfl rfl rfl kg)]
    clear kg
    intro K hK
    have q21 := hJ.iv hT (hdep ⟨6, .data⟩ (by simp) rfl) rfl rfl _ rfl _ rfl
    have q31 := hJ.iv hT (hdep ⟨16, .data⟩ (by simp) rfl) rfl rfl _ rfl _ rfl
    clear hsz hdep hout hlat
    go_simp
    exact hK _ _ (hJ.pa HTY hls hT)
   have q18 := hJ.iv hT (hdep ⟨3, .data⟩ (by simp) rfl) rfl rfl _ rfl _ rfl
   have q32 := hJ.iv hT (hdep ⟨17, .data⟩ (by simp) rfl) rfl rfl _ rfl _ rfl
   clear hsz hdep hout hlat
   go_simp
   exact hK _ _ (hJ.pa HTY hls hT)
  intro listed f w3 hall hJ
  have f18 : f 18 = .bool false := by
   have h := hJ.vals 18 (hall 18 (by simp)) (fun c hc => by have hc : none = some c := hc; cases hc)
   rw [hT] at h; exact h
  have xk := hJ.ext
  simp only [putAll, Act.put, List.setIfInBounds_toArray, List.set_cons_zero, List.set_cons_succ, Nat.zero_add, Nat.reduceAdd]
  rw [f18]
  clear f18
  clear hJ hall hT HTY
  replace BW := Hi (Ex.trans BW.out (show Ex w2 w3 from xk.below))
  clear xk
  go_wp2_with fail
  go_roundw
  case rel => exact ⟨1, by omega, by first | rfl | go_num, Hi (fun j hj => by
          obtain rfl : j = 0 := by omega
          exact ⟨x, HXK.out, HBR.out.symm, fun i hi => by omega⟩), BW⟩
  case measure => simp [intOf]; omega
 obtain ⟨y, hy⟩ : ∃ y, xs[k1]? = some y := ⟨_, List.getElem?_eq_getElem (by rw [← HN.out]; omega)⟩
 have k1i : (k1 : Int) < (n : Int) := by omega
 have k1z : (0 : Int) ≤ (k1 : Int) := by omega
 have YR := Hi (HRA.out k1 y hy)
 have YV := Hi (HVI.out k1 y hy)
 have HFY := Hi (idF_at xs k1 y hy)
 have HFX := Hi (idF_at xs (k1 + 1) x HXK.out)
 obtain ⟨cv, hcv⟩ : ∃ c, c = cmpN (idn y.id) (idn x.id) := ⟨_, rfl⟩
 have HCV := Hi hcv.symm
 by_cases hf : idn y.id < idn x.id
 ·have hc1 : ¬ (0 : Int) ≤ cv := by rw [hcv]; unfold cmpN; rw [if_pos hf]; decide
  have HF := Hi hf
  clear hcv hf hy
  go_wp2_with fail
  obtain ⟨T, hT⟩ : ∃ T : List (Rw w2.heap.size), T = [.is (x.V), .is (.bool true), .is (.bool false), .is (.bool false), .is (.int .i64 (k1 + 1 : Nat)), .is (.bool true), .is (.bool true), .is (.slice (some ⟨ab, o, none⟩) n cap), .is (.int .i64 (k1 + 1 : Nat)), .is (.int .i64 k1), .is (.pointer (some ⟨ab, o + k1 * 42, none⟩)), .is (.pointer (some ⟨ab, o + k1 * 42, none⟩)), .is (.slice (some ⟨ab, o + k1 * 42, none⟩) 4 4), .is (.pointer (some ⟨g, 0, none⟩)), .is (.slice (some ⟨g, 0, none⟩) 4 4), .is (.int .i64 cv), .is (.bool false), .is (.bool false), .is (.bool false)] := ⟨_, rfl⟩
  have HTY : T.map Rw.tys = ([[], [], [], [], [], [], [], [], [], [], [], [], [], [], [], [], [], [], []] : List (List Nat)) := by rw [hT]; rfl
  refine wp_region_gen (JW w2.heap.size w2 [0] T ([[], [], [], [], [], [], [], [], [], [], [], [], [], [], [], [], [], [], []] : List (List Nat)) ([none, none, none, none, none, none, none, none, none, none, none, none, none, none, none, none, none, none, none] : List (Option Nat)) ([] : List (Nat × Nat)) 100000) (by kernel_rfl) (by kernel_rfl) (by kernel_rfl) (fitB_spec (by kernel_rfl)) (fun listed f h => JW.start (Nat.le_refl _) listed f h) ?_ ?_
  ·intro i o ho
   have hi : i < 19 := (Array.getElem?_eq_some_iff.1 ho).1
   have hi' : i = 0 ∨ i = 1 ∨ i = 2 ∨ i = 3 ∨ i = 4 ∨ i = 5 ∨ i = 6 ∨ i = 7 ∨ i = 8 ∨ i = 9 ∨ i = 10 ∨ i = 11 ∨ i = 12 ∨ i = 13 ∨ i = 14 ∨ i = 15 ∨ i = 16 ∨ i = 17 ∨ i = 18 := by omega
   clear hi
   rcases hi' with rfl | rfl | rfl | rfl | rfl | rfl | rfl | rfl | rfl | rfl | rfl | rfl | rfl | rfl | rfl | rfl | rfl | rfl | rfl
   all_goals (simp only [List.getElem?_toArray, List.getElem?_cons_zero, List.getElem?_cons_succ, Option.some.injEq] at ho; subst ho; intro listed f a w3 hJ hsz hls hun hdep hout hlat; first | (rw [if_pos (by rfl)]; intro K hK) | skip)
   ·have q4 := hout 4 ob
    exact ld_v (.tmp 4) g x rfl q4 (HD.out.ext hJ.ext.below) (hK _ _ (hJ.pl HTY hls hT rfl))
   ·have q15 := hJ.iv hT (hdep ⟨0, .data⟩ (by simp) rfl) rfl rfl _ rfl _ rfl
    clear hsz hdep hout hlat
    go_simp
    refine (vright_any x w3 (XV.out.ext (Ex.trans BW.out hJ.ext.below))).mono ?_
    rintro e w4 ⟨rfl, x3⟩
    rw [← HBR.out]
    exact hK _ _ (hJ.plain HTY (by rw [hls]; decide) x3 (by rw [hT]; rfl) nh)
   ·have q16 := hJ.iv hT (hdep ⟨1, .data⟩ (by simp) rfl) rfl rfl _ rfl _ rfl
    clear hsz hdep hout hlat
    go_simp
    exact hK _ _ (hJ.pa HTY hls hT)
   ·have q17 := hJ.iw hT (hdep ⟨2, .data⟩ (by simp) rfl) rfl rfl _ rfl _ rfl
    exact wp_mw _ rfl q17 (hK _ _ (hJ.pl HTY hls hT rfl))
   ·have kg := hJ.iw hT (hdep ⟨3, .guard⟩ (by simp) rfl) rfl rfl _ rfl _ rfl
    rw [if_pos (wanted_of rfl rfl rfl kg)]
    clear kg
    intro K hK
    have q3 := hout 3 ob
    exact wp_mw _ rfl q3 (hK _ _ (hJ.pl HTY hls hT rfl))
   ·have kg := hJ.iw hT (hdep ⟨3, .guard⟩ (by simp) rfl) rfl rfl _ rfl _ rfl
    rw [if_pos (wanted_of rfl rfl rfl kg)]
    clear kg
    intro K hK
    have q19 := hJ.iv hT (hdep ⟨4, .data⟩ (by simp) rfl) rfl rfl _ rfl _ rfl
    have qk : (0 : Int) < ((k1 + 1 : Nat) : Int) := by omega
    clear hsz hdep hout hlat
    go_simp
    exact hK _ _ (hJ.plain HTY (by rw [hls]; decide) (Ex.refl _) (by rw [hT]; first | rfl | simp) nh)
   ·have kg := hJ.iw hT (hdep ⟨3, .guard⟩ (by simp) rfl) rfl rfl _ rfl _ rfl
    rw [if_pos (wanted_of rfl rfl rfl kg)]
    clear kg
    intro K hK
    have q20 := hJ.iw hT (hdep ⟨5, .data⟩ (by simp) rfl) rfl rfl _ rfl _ rfl
    exact wp_mw _ rfl q20 (hK _ _ (hJ.pl HTY hls hT rfl))
   ·have kg := hJ.iw hT (hdep ⟨6, .guard⟩ (by simp) rfl) rfl rfl _ rfl _ rfl
    rw [if_pos (wanted_of rfl rfl rfl kg)]
    clear kg
    intro K hK
    have q0 := hout 0 ob
    exact wp_mw _ rfl q0 (hK _ _ (hJ.pl HTY hls hT rfl))
   ·have kg := hJ.iw hT (hdep ⟨6, .guard⟩ (by simp) rfl) rfl rfl _ rfl _ rfl
    rw [if_pos (wanted_of rfl rfl rfl kg)]
    clear kg
    intro K hK
    have q3 := hout 3 ob
    exact wp_mw _ rfl q3 (hK _ _ (hJ.pl HTY hls hT rfl))
   ·have kg := hJ.iw hT (hdep ⟨6, .guard⟩ (by simp) rfl) rfl rfl _ rfl _ rfl
    rw [if_pos (wanted_of rfl rfl rfl kg)]
    clear kg
    intro K hK
    have q23 := hJ.iv hT (hdep ⟨8, .data⟩ (by simp) rfl) rfl rfl _ rfl _ rfl
    clear hsz hdep hout hlat
    go_simp
    exact hK _ _ (hJ.pa HTY hls hT)
   ·have kg := hJ.iw hT (hdep ⟨6, .guard⟩ (by simp) rfl) rfl rfl _ rfl _ rfl
    rw [if_pos (wanted_of rfl rfl rfl kg)]
    clear kg
    intro K hK
    have q22 := hJ.iv hT (hdep ⟨7, .data⟩ (by simp) rfl) rfl rfl _ rfl _ rfl
    have q24 := hJ.iv hT (hdep ⟨9, .data⟩ (by simp) rfl) rfl rfl _ rfl _ rfl
    clear hsz hdep hout hlat
    go_simp
    exact hK _ _ (hJ.pa HTY hls hT)
   ·have kg := hJ.iw hT (hdep ⟨6, .guard⟩ (by simp) rfl) rfl rfl _ rfl _ rfl
    rw [if_pos (wanted_of rfl rfl rfl kg)]
    clear kg
    intro K hK
    have q25 := hJ.iv hT (hdep ⟨10, .data⟩ (by simp) rfl) rfl rfl _ rfl _ rfl
    clear hsz hdep hout hlat
    go_simp
    exact hK _ _ (hJ.pa HTY hls hT)
   ·have kg := hJ.iw hT (hdep ⟨6, .guard⟩ (by simp) rfl) rfl rfl _ rfl _ rfl
    rw [if_pos (wanted_of rfl rfl rfl kg)]
    clear kg
    intro K hK
    have q26 := hJ.iv hT (hdep ⟨11, .data⟩ (by simp) rfl) rfl rfl _ rfl _ rfl
    clear hsz hdep hout hlat
    go_simp
    exact hK _ _ (hJ.pa HTY hls hT)
   ·have kg := hJ.iw hT (hdep ⟨6, .guard⟩ (by simp) rfl) rfl rfl _ rfl _ rfl
    rw [if_pos (wanted_of rfl rfl rfl kg)]
    clear kg
    intro K hK
    have q4 := hout 4 ob
    rw [gd9] at q4
    clear hsz hdep hout hlat
    go_simp
    exact hK _ _ (hJ.pa HTY hls hT)
   ·have kg := hJ.iw hT (hdep ⟨6, .guard⟩ (by simp) rfl) rfl rfl _ rfl _ rfl
    rw [if_pos (wanted_of rfl rfl rfl kg)]
    clear kg
    intro K hK
    have q28 := hJ.iv hT (hdep ⟨13, .data⟩ (by simp) rfl) rfl rfl _ rfl _ rfl
    clear hsz hdep hout hlat
    go_simp
    exact hK _ _ (hJ.pa HTY hls hT)
   ·have kg := hJ.iw hT (hdep ⟨6, .guard⟩ (by simp) rfl) rfl rfl _ rfl _ rfl
    rw [if_pos (wanted_of rfl rfl rfl kg)]
    clear kg
    intro K hK
    have q27 := hJ.iv hT (hdep ⟨12, .data⟩ (by simp) rfl) rfl rfl _ rfl _ rfl
    have q29 := hJ.iv hT (hdep ⟨14, .data⟩ (by simp) rfl) rfl rfl _ rfl _ rfl
    clear hsz hdep hout hlat
    go_simp
    have b1 := id_row (fun j u hu => (Below.cell (p := ⟨ab, o + k1 * 42 + j, none⟩) (Ex.trans XX.out hJ.ext.below) HAB.out).trans (YR.out j u hu)) YV.out.ok (Nat.lt_of_lt_of_le HAB2.out (Below.size hJ.ext.below))
    have b2 := id_row (HD.out.ext hJ.ext.below).2.range XV.out.ok (HD.out.ext hJ.ext.below).2.lt
    refine (bcmp4 ab g (o + k1 * 42) 0 y.id x.id YV.out.ok.idN XV.out.ok.idN w3 b1 b2).mono ?_
    rintro e w4 ⟨rfl, rfl⟩
    rw [HCV.out]
    exact hK _ _ (hJ.pl HTY hls hT rfl)
   ·have kg := hJ.iw hT (hdep ⟨6, .guard⟩ (by simp) rfl) rfl rfl _ rfl _ rfl
    rw [if_pos (wanted_of rfl rfl rfl kg)]
    clear kg
    intro K hK
    have q30 := hJ.iv hT (hdep ⟨15, .data⟩ (by simp) rfl) rfl rfl _ rfl _ rfl
    clear hsz hdep hout hlat
    go_simp
    exact hK _ _ (hJ.plain HTY (by rw [hls]; decide) (Ex.refl _) (by rw [hT]; first | rfl | exact congrArg Value.bool (decide_eq_false (by omega)) | exact congrArg Value.bool (decide_eq_true (by omega))) nh)
   ·have kg := hJ.iw hT (hdep ⟨3, .guard⟩ (by simp) rfl) rfl rfl _ rfl _ rfl
    rw [if_pos (wanted_of rfl rfl rfl kg)]
    clear kg
    intro K hK
    have q21 := hJ.iv hT (hdep ⟨6, .data⟩ (by simp) rfl) rfl rfl _ rfl _ rfl
    have q31 := hJ.iv hT (hdep ⟨16, .data⟩ (by simp) rfl) rfl rfl _ rfl _ rfl
    clear hsz hdep hout hlat
    go_simp
    exact hK _ _ (hJ.pa HTY hls hT)
   have q18 := hJ.iv hT (hdep ⟨3, .data⟩ (by simp) rfl) rfl rfl _ rfl _ rfl
   have q32 := hJ.iv hT (hdep ⟨17, .data⟩ (by simp) rfl) rfl rfl _ rfl _ rfl
   clear hsz hdep hout hlat
   go_simp
   exact hK _ _ (hJ.pa HTY hls hT)
  intro listed f w3 hall hJ
  have f18 : f 18 = .bool false := by
   have h := hJ.vals 18 (hall 18 (by simp)) (fun c hc => by have hc : none = some c := hc; cases hc)
   rw [hT] at h; exact h
  have xk := hJ.ext
  simp only [putAll, Act.put, List.setIfInBounds_toArray, List.set_cons_zero, List.set_cons_succ, Nat.zero_add, Nat.reduceAdd]
  rw [f18]
  clear f18
  clear hJ hall hT HTY
  replace BW := Hi (Ex.trans BW.out (show Ex w2 w3 from xk.below))
  clear xk
  go_wp2_with fail
  go_roundw
  case rel => exact ⟨k1 + 1 + 1, by omega, by go_num, Hi (fun j hj => by
           rcases Nat.lt_or_ge j (k1 + 1) with h | h
           ·exact HG.out j h
           ·obtain rfl : j = k1 + 1 := by omega
            exact ⟨x, HXK.out, HBR.out.symm, fun i hi => by
             obtain rfl : i = k1 := by omega
             rw [HFY.out, HFX.out]; exact HF.out⟩), BW⟩
  case measure => simp [intOf]; omega
 have hc1 : (0 : Int) ≤ cv := by rw [hcv]; unfold cmpN; rw [if_neg hf]; split <;> decide
 have HF := Hi hf
 clear hcv hf hy
 go_wp2_with fail
 obtain ⟨T, hT⟩ : ∃ T : List (Rw w2.heap.size), T = [.is (x.V), .is (.bool true), .is (.bool false), .is (.bool false), .is (.int .i64 (k1 + 1 : Nat)), .is (.bool true), .is (.bool true), .is (.slice (some ⟨ab, o, none⟩) n cap), .is (.int .i64 (k1 + 1 : Nat)), .is (.int .i64 k1), .is (.pointer (some ⟨ab, o + k1 * 42, none⟩)), .is (.pointer (some ⟨ab, o + k1 * 42, none⟩)), .is (.slice (some ⟨ab, o + k1 * 42, none⟩) 4 4), .is (.pointer (some ⟨g, 0, none⟩)), .is (.slice (some ⟨g, 0, none⟩) 4 4), .is (.int .i64 cv), .is (.bool true), .is (.bool true), .is (.bool true)] := ⟨_, rfl⟩
 have HTY : T.map Rw.tys = ([[], [], [], [], [], [], [], [], [], [], [], [], [], [], [], [], [], [], []] : List (List Nat)) := by rw [hT]; rfl
 refine wp_region_gen (JW w2.heap.size w2 [0] T ([[], [], [], [], [], [], [], [], [], [], [], [], [], [], [], [], [], [], []] : List (List Nat)) ([none, none, none, none, none, none, none, none, none, none, none, none, none, none, none, none, none, none, none] : List (Option Nat)) ([] : List (Nat × Nat)) 100000) (by kernel_rfl) (by kernel_rfl) (by kernel_rfl) (fitB_spec (by kernel_rfl)) (fun listed f h => JW.start (Nat.le_refl _) listed f h) ?_ ?_
 ·intro i o ho
  have hi : i < 19 := (Array.getElem?_eq_some_iff.1 ho).1
  have hi' : i = 0 ∨ i = 1 ∨ i = 2 ∨ i = 3 ∨ i = 4 ∨ i = 5 ∨ i = 6 ∨ i = 7 ∨ i = 8 ∨ i = 9 ∨ i = 10 ∨ i = 11 ∨ i = 12 ∨ i = 13 ∨ i = 14 ∨ i = 15 ∨ i = 16 ∨ i = 17 ∨ i = 18 := by omega
  clear hi
  rcases hi' with rfl | rfl | rfl | rfl | rfl | rfl | rfl | rfl | rfl | rfl | rfl | rfl | rfl | rfl | rfl | rfl | rfl | rfl | rfl
  all_goals (simp only [List.getElem?_toArray, List.getElem?_cons_zero, List.getElem?_cons_succ, Option.some.injEq] at ho; subst ho; intro listed f a w3 hJ hsz hls hun hdep hout hlat; first | (rw [if_pos (by rfl)]; intro K hK) | skip)
  ·have q4 := hout 4 ob
   exact ld_v (.tmp 4) g x rfl q4 (HD.out.ext hJ.ext.below) (hK _ _ (hJ.pl HTY hls hT rfl))
  ·have q15 := hJ.iv hT (hdep ⟨0, .data⟩ (by simp) rfl) rfl rfl _ rfl _ rfl
   clear hsz hdep hout hlat
   go_simp
   refine (vright_any x w3 (XV.out.ext (Ex.trans BW.out hJ.ext.below))).mono ?_
   rintro e w4 ⟨rfl, x3⟩
   rw [← HBR.out]
   exact hK _ _ (hJ.plain HTY (by rw [hls]; decide) x3 (by rw [hT]; rfl) nh)
  ·have q16 := hJ.iv hT (hdep ⟨1, .data⟩ (by simp) rfl) rfl rfl _ rfl _ rfl
   clear hsz hdep hout hlat
   go_simp
   exact hK _ _ (hJ.pa HTY hls hT)
  ·have q17 := hJ.iw hT (hdep ⟨2, .data⟩ (by simp) rfl) rfl rfl _ rfl _ rfl
   exact wp_mw _ rfl q17 (hK _ _ (hJ.pl HTY hls hT rfl))
  ·have kg := hJ.iw hT (hdep ⟨3, .guard⟩ (by simp) rfl) rfl rfl _ rfl _ rfl
   rw [if_pos (wanted_of rfl rfl rfl kg)]
   clear kg
   intro K hK
   have q3 := hout 3 ob
   exact wp_mw _ rfl q3 (hK _ _ (hJ.pl HTY hls hT rfl))
  ·have kg := hJ.iw hT (hdep ⟨3, .guard⟩ (by simp) rfl) rfl rfl _ rfl _ rfl
   rw [if_pos (wanted_of rfl rfl rfl kg)]
   clear kg
   intro K hK
   have q19 := hJ.iv hT (hdep ⟨4, .data⟩ (by simp) rfl) rfl rfl _ rfl _ rfl
   have qk : (0 : Int) < ((k1 + 1 : Nat) : Int) := by omega
   clear hsz hdep hout hlat
   go_simp
   exact hK _ _ (hJ.plain HTY (by rw [hls]; decide) (Ex.refl _) (by rw [hT]; first | rfl | simp) nh)
  ·have kg := hJ.iw hT (hdep ⟨3, .guard⟩ (by simp) rfl) rfl rfl _ rfl _ rfl
   rw [if_pos (wanted_of rfl rfl rfl kg)]
   clear kg
   intro K hK
   have q20 := hJ.iw hT (hdep ⟨5, .data⟩ (by simp) rfl) rfl rfl _ rfl _ rfl
   exact wp_mw _ rfl q20 (hK _ _ (hJ.pl HTY hls hT rfl))
  ·have kg := hJ.iw hT (hdep ⟨6, .guard⟩ (by simp) rfl) rfl rfl _ rfl _ rfl
   rw [if_pos (wanted_of rfl rfl rfl kg)]
   clear kg
   intro K hK
   have q0 := hout 0 ob
   exact wp_mw _ rfl q0 (hK _ _ (hJ.pl HTY hls hT rfl))
  ·have kg := hJ.iw hT (hdep ⟨6, .guard⟩ (by simp) rfl) rfl rfl _ rfl _ rfl
   rw [if_pos (wanted_of rfl rfl rfl kg)]
   clear kg
   intro K hK
   have q3 := hout 3 ob
   exact wp_mw _ rfl q3 (hK _ _ (hJ.pl HTY hls hT rfl))
  ·have kg := hJ.iw hT (hdep ⟨6, .guard⟩ (by simp) rfl) rfl rfl _ rfl _ rfl
   rw [if_pos (wanted_of rfl rfl rfl kg)]
   clear kg
   intro K hK
   have q23 := hJ.iv hT (hdep ⟨8, .data⟩ (by simp) rfl) rfl rfl _ rfl _ rfl
   clear hsz hdep hout hlat
   go_simp
   exact hK _ _ (hJ.pa HTY hls hT)
  ·have kg := hJ.iw hT (hdep ⟨6, .guard⟩ (by simp) rfl) rfl rfl _ rfl _ rfl
   rw [if_pos (wanted_of rfl rfl rfl kg)]
   clear kg
   intro K hK
   have q22 := hJ.iv hT (hdep ⟨7, .data⟩ (by simp) rfl) rfl rfl _ rfl _ rfl
   have q24 := hJ.iv hT (hdep ⟨9, .data⟩ (by simp) rfl) rfl rfl _ rfl _ rfl
   clear hsz hdep hout hlat
   go_simp
   exact hK _ _ (hJ.pa HTY hls hT)
  ·have kg := hJ.iw hT (hdep ⟨6, .guard⟩ (by simp) rfl) rfl rfl _ rfl _ rfl
   rw [if_pos (wanted_of rfl rfl rfl kg)]
   clear kg
   intro K hK
   have q25 := hJ.iv hT (hdep ⟨10, .data⟩ (by simp) rfl) rfl rfl _ rfl _ rfl
   clear hsz hdep hout hlat
   go_simp
   exact hK _ _ (hJ.pa HTY hls hT)
  ·have kg := hJ.iw hT (hdep ⟨6, .guard⟩ (by simp) rfl) rfl rfl _ rfl _ rfl
   rw [if_pos (wanted_of rfl rfl rfl kg)]
   clear kg
   intro K hK
   have q26 := hJ.iv hT (hdep ⟨11, .data⟩ (by simp) rfl) rfl rfl _ rfl _ rfl
   clear hsz hdep hout hlat
   go_simp
   exact hK _ _ (hJ.pa HTY hls hT)
  ·have kg := hJ.iw hT (hdep ⟨6, .guard⟩ (by simp) rfl) rfl rfl _ rfl _ rfl
   rw [if_pos (wanted_of rfl rfl rfl kg)]
   clear kg
   intro K hK
   have q4 := hout 4 ob
   rw [gd9] at q4
   clear hsz hdep hout hlat
   go_simp
   exact hK _ _ (hJ.pa HTY hls hT)
  ·have kg := hJ.iw hT (hdep ⟨6, .guard⟩ (by simp) rfl) rfl rfl _ rfl _ rfl
   rw [if_pos (wanted_of rfl rfl rfl kg)]
   clear kg
   intro K hK
   have q28 := hJ.iv hT (hdep ⟨13, .data⟩ (by simp) rfl) rfl rfl _ rfl _ rfl
   clear hsz hdep hout hlat
   go_simp
   exact hK _ _ (hJ.pa HTY hls hT)
  ·have kg := hJ.iw hT (hdep ⟨6, .guard⟩ (by simp) rfl) rfl rfl _ rfl _ rfl
   rw [if_pos (wanted_of rfl rfl rfl kg)]
   clear kg
   intro K hK
   have q27 := hJ.iv hT (hdep ⟨12, .data⟩ (by simp) rfl) rfl rfl _ rfl _ rfl
   have q29 := hJ.iv hT (hdep ⟨14, .data⟩ (by simp) rfl) rfl rfl _ rfl _ rfl
   clear hsz hdep hout hlat
   go_simp
   have b1 := id_row (fun j u hu => (Below.cell (p := ⟨ab, o + k1 * 42 + j, none⟩) (Ex.trans XX.out hJ.ext.below) HAB.out).trans (YR.out j u hu)) YV.out.ok (Nat.lt_of_lt_of_le HAB2.out (Below.size hJ.ext.below))
   have b2 := id_row (HD.out.ext hJ.ext.below).2.range XV.out.ok (HD.out.ext hJ.ext.below).2.lt
   refine (bcmp4 ab g (o + k1 * 42) 0 y.id x.id YV.out.ok.idN XV.out.ok.idN w3 b1 b2).mono ?_
   rintro e w4 ⟨rfl, rfl⟩
   rw [HCV.out]
   exact hK _ _ (hJ.pl HTY hls hT rfl)
  ·have kg := hJ.iw hT (hdep ⟨6, .guard⟩ (by simp) rfl) rfl rfl _ rfl _ rfl
   rw [if_pos (wanted_of rfl rfl rfl kg)]
   clear kg
   intro K hK
   have q30 := hJ.iv hT (hdep ⟨15, .data⟩ (by simp) rfl) rfl rfl _ rfl _ rfl
   clear hsz hdep hout hlat
   go_simp
   exact hK _ _ (hJ.plain HTY (by rw [hls]; decide) (Ex.refl _) (by rw [hT]; first | rfl | exact congrArg Value.bool (decide_eq_false (by omega)) | exact congrArg Value.bool (decide_eq_true (by omega))) nh)
  ·have kg := hJ.iw hT (hdep ⟨3, .guard⟩ (by simp) rfl) rfl rfl _ rfl _ rfl
   rw [if_pos (wanted_of rfl rfl rfl kg)]
   clear kg
   intro K hK
   have q21 := hJ.iv hT (hdep ⟨6, .data⟩ (by simp) rfl) rfl rfl _ rfl _ rfl
   have q31 := hJ.iv hT (hdep ⟨16, .data⟩ (by simp) rfl) rfl rfl _ rfl _ rfl
   clear hsz hdep hout hlat
   go_simp
   exact hK _ _ (hJ.pa HTY hls hT)
  have q18 := hJ.iv hT (hdep ⟨3, .data⟩ (by simp) rfl) rfl rfl _ rfl _ rfl
  have q32 := hJ.iv hT (hdep ⟨17, .data⟩ (by simp) rfl) rfl rfl _ rfl _ rfl
  clear hsz hdep hout hlat
  go_simp
  exact hK _ _ (hJ.pa HTY hls hT)
 intro listed f w3 hall hJ
 have f18 : f 18 = .bool true := by
  have h := hJ.vals 18 (hall 18 (by simp)) (fun c hc => by have hc : none = some c := hc; cases hc)
  rw [hT] at h; exact h
 have xk := hJ.ext
 simp only [putAll, Act.put, List.setIfInBounds_toArray, List.set_cons_zero, List.set_cons_succ, Nat.zero_add, Nat.reduceAdd]
 rw [f18]
 clear f18
 clear hJ hall hT HTY
 replace BW := Hi (Ex.trans BW.out (show Ex w2 w3 from xk.below))
 clear xk
 go_wp2_with fail
 go_ret
 exact ⟨false, rfl, ⟨(fun h => by cases h), fun hr => absurd hr (fun hr => by have h1 := hr.2.2 k1 (by rw [← HN.out]; omega); rw [HFY.out, HFX.out] at h1; exact HF.out h1)⟩, BW.out⟩
end Go.Proofs.Ytmjfnpmnhehnkaa
