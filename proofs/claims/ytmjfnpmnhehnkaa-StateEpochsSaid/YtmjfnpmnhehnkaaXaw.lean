/- Sn -/
import Derived.Test.YtmjfnpmnhehnkaaXav
namespace Go.Proofs.Ytmjfnpmnhehnkaa
open Go.RowKit
theorem id_row {w : World} {g off : Nat} {y : Vt} (h : w.rangeAt g off y.C) (hy : y.Ok) (hg : g < w.heap.size) : (Pt.mk (some ⟨g, off, none⟩) 4 y.id).In w w.heap.size :=
 ⟨by show y.id.length ≤ 4; have := hy.idN; omega, (fun h => by cases h), fun _ => ⟨g, off, rfl, hg, fun i hi => by
  have hi' : i < y.id.length := hi
  rw [h i (.int .u8 (y.id[i].toNat : Int)) (by
   unfold Vt.C
   simp only [List.append_assoc]
   rw [List.getElem?_append_left (by rw [byteCells_len]; exact hi')]
   exact byteCells_get y.id i hi')]
  simp [List.getD, hi']⟩⟩
set_option maxHeartbeats 4000000 in
set_option maxRecDepth 100000 in
theorem rrow_any (ad : Option Addr) (cap : Nat) (xs : List Vt) (hcap : cap ≤ 9223372036854775807) (w : World) (hin : Vp.In ad cap xs w) (hvi : ∀ (i : Nat) (x : Vt), xs[i]? = some x → VI w x) : Calls Try.prog 124 #[.slice ad xs.length cap] w (BPost (Rising xs) w) := by
 have HIN := Hi hin
 have HVI := Hi hvi
 obtain ⟨n, hn⟩ : ∃ n, n = xs.length := ⟨_, rfl⟩
 have HN := Hi hn
 rw [← hn]
 have hnb : n ≤ 9223372036854775807 := by rw [hn]; exact Nat.le_trans hin.len hcap
 clear hn hin hvi hcap
 by_cases h4 : n ≤ 4
 rotate_left
 ·have h4i : (4 : Int) < (n : Int) := by omega
  go_enter Try.func124, Try.ntmps124
  go_wp2_with fail
  go_ret
  exact ⟨false, rfl, ⟨(fun h => by cases h), fun hr => absurd hr (fun hr => h4 (by rw [HN.out]; exact hr.1))⟩, Ex.refl _⟩
 have h4i : ¬ (4 : Int) < (n : Int) := by omega
 go_enter Try.func124, Try.ntmps124
 go_wp2_with (first | ((with_reducible refine so4 [36, 1000+36, 32, 1000+32, 4000+36] ?_ ?_); (focus rfl)) | (with_reducible refine stop_bs (t := 37) ?_) | (with_reducible refine stop_app ?_))
 go_loopw [10] (fun i wr => ∃ k : Nat, k ≤ n ∧ i = .int .i64 k ∧ Hid (∀ j, j < k → ∃ x, xs[j]? = some x ∧ x.ct.right = true ∧ ∀ i, j = i + 1 → idF xs i < idF xs j) ∧ Hid (Ex w wr)) (fun i _ => n - (intOf i).toNat)
 case atStart => exact ⟨0, by omega, rfl, Hi (fun j hj => absurd hj (Nat.not_lt_zero j)), Hi (Ex.refl _)⟩
 obtain ⟨k, hk, rfl, HG, BW⟩ := hrel
 by_cases hlt : k < n
 rotate_left
 ·obtain rfl : k = n := by omega
  have q1 : ¬ (k : Int) < (k : Int) := by omega
  have HRI : Hid (Rising xs) := Hi ⟨by rw [← HN.out]; exact h4, fun i x hx => by
   have hi := (List.getElem?_eq_some_iff.1 hx).1
   obtain ⟨z, hz, h1, _⟩ := HG.out i (by rw [HN.out]; exact hi)
   rw [hx] at hz; cases hz; exact h1, fun i hi => by
   obtain ⟨z, hz, _, h1⟩ := HG.out (i + 1) (by rw [HN.out]; exact hi)
   exact h1 i rfl⟩
  go_wp2_with (first | ((with_reducible refine so4 [36, 1000+36, 32, 1000+32, 4000+36] ?_ ?_); (focus rfl)) | (with_reducible refine stop_bs (t := 37) ?_) | (with_reducible refine stop_app ?_))
  go_ret
  exact ⟨true, rfl, ⟨fun _ => HRI.out, fun _ => rfl⟩, BW.out⟩
 have q0 : (0 : Int) ≤ (k : Int) := by omega
 have q1 : (k : Int) < (n : Int) := by omega
 obtain ⟨x, hx⟩ : ∃ x, xs[k]? = some x := ⟨_, List.getElem?_eq_getElem (by rw [← HN.out]; omega)⟩
 obtain ⟨ab, o, rfl, hab2, hra⟩ := (HIN.out.ext BW.out).read (by rw [← HN.out]; omega)
 have XR := Hi (hra k x hx)
 have XV := Hi (HVI.out k x hx)
 have HXK := Hi hx
 have HRA := Hi hra
 have HAB := Hi hab2
 clear hra hab2 hx
 go_wp2_with (first | ((with_reducible refine so4 [36, 1000+36, 32, 1000+32, 4000+36] ?_ ?_); (focus rfl)) | (with_reducible refine stop_bs (t := 37) ?_) | (with_reducible refine stop_app ?_))
 refine at9 (by go_simp) fun K0 hK => ld_vr _ ab (o + k * 42) x XV.out.ok rfl rfl XR.out (hK _ _ ?_)
 clear hK
 go_wp2_with (first | ((with_reducible refine so4 [36, 1000+36, 32, 1000+32, 4000+36] ?_ ?_); (focus rfl)) | (with_reducible refine stop_bs (t := 37) ?_) | (with_reducible refine stop_app ?_))
 refine at9 (by go_simp) fun K0 hK => st_v _ _ wr.heap.size x rfl rfl rfl XV.out.ok (Bk.new rfl _ _) (by rfl) (fun w2 hd ho => hK _ _ ?_)
 clear hK
 have xx : Ex wr w2 := ho.below wr.heap.size (Nat.le_refl _) wr (Ex.alloc wr _)
 have HD := Hi hd
 have XX := Hi xx
 replace BW := Hi (Ex.trans BW.out xx)
 obtain ⟨g, hg⟩ : ∃ g, g = wr.heap.size := ⟨_, rfl⟩
 rw [← hg] at HD ⊢
 have HAB2 := Hi (Nat.lt_of_lt_of_le HAB.out xx.sz')
 clear xx hd ho hg XR
 obtain ⟨br, hbr⟩ : ∃ b, b = x.ct.right := ⟨_, rfl⟩
 have HBR := Hi hbr
 clear hbr
 cases br
 ·skip
  go_wp2_with fail
  obtain ⟨T, hT⟩ : ∃ T : List (Rw w2.heap.size), T = [.is (x.V), .is (.bool false), .is (.bool true), .is (.bool true), .is (undef), .is (undef), .is (undef), .is (undef), .is (undef), .is (undef), .is (undef), .is (undef), .is (undef), .is (undef), .is (undef), .is (undef), .is (undef), .is (undef), .is (.bool true)] := ⟨_, rfl⟩
  have HTY : T.map Rw.tys = ([[], [], [], [], [], [], [], [], [], [], [], [], [], [], [], [], [], [], []] : List (List Nat)) := by rw [hT]; rfl
  refine wp_region_gen (JW w2.heap.size w2 [0] T ([[], [], [], [], [], [], [], [], [], [], [], [], [], [], [], [], [], [], []] : List (List Nat)) ([none, none, none, none, none, none, none, none, none, none, none, none, none, none, none, none, none, none, none] : List (Option Nat)) ([] : List (Nat × Nat)) 100000) (by kernel_rfl) (by kernel_rfl) (by kernel_rfl) (fitB_spec (by kernel_rfl)) (fun listed f h => JW.start (Nat.le_refl _) listed f h) ?_ ?_
  ·intro i o ho
   have hi : i < 19 := (Array.getElem?_eq_some_iff.1 ho).1
   have hi' : i = 0 ∨ i = 1 ∨ i = 2 ∨ i = 3 ∨ i = 4 ∨ i = 5 ∨ i = 6 ∨ i = 7 ∨ i = 8 ∨ i = 9 ∨ i = 10 ∨ i = 11 ∨ i = 12 ∨ i = 13 ∨ i = 14 ∨ i = 15 ∨ i = 16 ∨ i = 17 ∨ i = 18 := by omega
   clear hi
   rcases hi' with rfl | rfl | rfl | rfl | rfl | rfl | rfl | rfl | rfl | rfl | rfl | rfl | rfl | rfl | rfl | rfl | rfl | rfl | rfl
   all_goals (simp only [List.getElem?_toArray, List.getElem?_cons_zero, List.getElem?_cons_succ, Option.some.injEq] at ho; subst ho; intro listed f a w3 hJ hsz hls hun hdep hout hlat; first | (rw [if_pos (by rfl)]; intro K hK) | skip)
   ·have q4 := hout 4 (outB_spec (by kernel_rfl))
    exact ld_v (.tmp 4) g x rfl q4 (HD.out.ext hJ.ext.below) (hK _ _ (hJ.plain HTY (by rw [hls]; decide) (Ex.refl _) (by rw [hT]; rfl) (no_head (by decide))))
   ·have dd15 := hdep ⟨0, .data⟩ (by simp) rfl
    have q15 := dd15.2 _ rfl _ rfl
    have h15 := hJ.vals 0 dd15.1 (fun c hc => by have hc : none = some c := hc; cases hc)
    rw [hT] at h15
    rw [show f 0 = x.V from h15] at q15
    clear h15
    clear dd15
    rw [Array.getD_eq_getD_getElem?] at q15
    clear hsz hdep hout hlat
    go_simp
    refine (vright_any x w3 (XV.out.ext (Ex.trans BW.out hJ.ext.below))).mono ?_
    rintro e w4 ⟨rfl, x3⟩
    rw [← HBR.out]
    exact hK _ _ (hJ.plain HTY (by rw [hls]; decide) x3 (by rw [hT]; rfl) (no_head (by decide)))
   ·have dd16 := hdep ⟨1, .data⟩ (by simp) rfl
    have q16 := dd16.2 _ rfl _ rfl
    have h16 := hJ.vals 1 dd16.1 (fun c hc => by have hc : none = some c := hc; cases hc)
    rw [hT] at h16
    rw [show f 1 = .bool false from h16] at q16
    clear h16
    clear dd16
    rw [Array.getD_eq_getD_getElem?] at q16
    clear hsz hdep hout hlat
    go_simp
    exact hK _ _ (hJ.plain HTY (by rw [hls]; decide) (Ex.refl _) (by rw [hT]; first | rfl | exact congrArg (Value.int .i64) (by omega) | exact congrArg (Value.int .i64) (by rw [IntKind.wrap_i64]; omega)) (no_head (by decide)))
   ·have dd17 := hdep ⟨2, .data⟩ (by simp) rfl
    have q17 := dd17.2 _ rfl _ rfl
    have h17 := hJ.vals 2 dd17.1 (fun c hc => by have hc : none = some c := hc; cases hc)
    rw [hT] at h17
    rw [show f 2 = .bool true from h17] at q17
    clear h17
    clear dd17
    refine wp_mv _ rfl (hK _ _ ?_)
    rw [show a.eval (.tmp 17) = .bool true from q17]
    exact hJ.plain HTY (by rw [hls]; decide) (Ex.refl _) (by rw [hT]; rfl) (no_head (by decide))
   iterate 3
    focus
     have ddg := hdep ⟨3, .guard⟩ (by simp) rfl
     have kg := ddg.2 _ rfl _ rfl
     have hg := hJ.vals 3 ddg.1 (fun c hc => by have hc : none = some c := hc; cases hc)
     rw [hT] at hg
     rw [show f 3 = .bool true from hg] at kg
     clear hg ddg
     rw [if_neg (not_wanted rfl rfl rfl kg (by decide))]
     exact hJ.plain HTY (by rw [hls]; decide) (Ex.refl _) (by rw [hT]; first | exact trivial | rfl) (no_head (by decide))
   iterate 10
    focus
     have ddg := hdep ⟨6, .guard⟩ (by simp) rfl
     have kg := ddg.2 _ rfl _ rfl
     have hg := hJ.vals 6 ddg.1 (fun c hc => by have hc : none = some c := hc; cases hc)
     rw [hT] at hg
     rw [show f 6 = undef from hg] at kg
     clear hg ddg
     rw [if_neg (not_wanted_x rfl rfl rfl kg (by simp [undef]))]
     exact hJ.plain HTY (by rw [hls]; decide) (Ex.refl _) (by rw [hT]; first | exact trivial | rfl) (no_head (by decide))
   ·have ddg := hdep ⟨3, .guard⟩ (by simp) rfl
    have kg := ddg.2 _ rfl _ rfl
    have hg := hJ.vals 3 ddg.1 (fun c hc => by have hc : none = some c := hc; cases hc)
    rw [hT] at hg
    rw [show f 3 = .bool true from hg] at kg
    clear hg ddg
    rw [if_neg (not_wanted rfl rfl rfl kg (by decide))]
    exact hJ.plain HTY (by rw [hls]; decide) (Ex.refl _) (by rw [hT]; first | exact trivial | rfl) (no_head (by decide))
   have dd18 := hdep ⟨3, .data⟩ (by simp) rfl
   have q18 := dd18.2 _ rfl _ rfl
   have h18 := hJ.vals 3 dd18.1 (fun c hc => by have hc : none = some c := hc; cases hc)
   rw [hT] at h18
   rw [show f 3 = .bool true from h18] at q18
   clear h18
   clear dd18
   have dd32 := hdep ⟨17, .data⟩ (by simp) rfl
   have q32 := dd32.2 _ rfl _ rfl
   have h32 := hJ.vals 17 dd32.1 (fun c hc => by have hc : none = some c := hc; cases hc)
   rw [hT] at h32
   rw [show f 17 = undef from h32] at q32
   clear h32
   clear dd32
   rw [Array.getD_eq_getD_getElem?] at q18 q32
   clear hsz hdep hout hlat
   go_simp
   exact hK _ _ (hJ.plain HTY (by rw [hls]; decide) (Ex.refl _) (by rw [hT]; first | rfl | exact congrArg (Value.int .i64) (by omega) | exact congrArg (Value.int .i64) (by rw [IntKind.wrap_i64]; omega)) (no_head (by decide)))
  intro listed f w3 hall hJ
  have f18 : f 18 = .bool true := by
   have h := hJ.vals 18 (hall 18 (by simp)) (fun c hc => by have hc : none = some c := hc; cases hc)
   rw [hT] at h; exact h
  have xk := hJ.ext
  simp only [putAll, Act.put, List.setIfInBounds_toArray, List.set_cons_zero, List.set_cons_succ, Nat.zero_add, Nat.reduceAdd]
  rw [f18]
  clear f18
  clear hJ hall hT HTY
  replace BW := Hi (Ex.trans BW.out (show Ex w2 w3 from xk.below))
  clear xk
  go_wp2_with fail
  go_ret
  exact ⟨false, rfl, ⟨(fun h => by cases h), fun hr => absurd hr (fun hr => by have h1 := hr.2.1 k x HXK.out; rw [← HBR.out] at h1; cases h1)⟩, BW.out⟩
 rcases k with _ | k1
 ·skip
  go_wp2_with fail
  obtain ⟨T, hT⟩ : ∃ T : List (Rw w2.heap.size), T = [.is (x.V), .is (.bool true), .is (.bool false), .is (.bool false), .is (.int .i64 (0 : Nat)), .is (.bool false), .is (.bool false), .is (undef), .is (undef), .is (undef), .is (undef), .is (undef), .is (undef), .is (undef), .is (undef), .is (undef), .is (undef), .is (.bool false), .is (.bool false)] := ⟨_, rfl⟩
  have HTY : T.map Rw.tys = ([[], [], [], [], [], [], [], [], [], [], [], [], [], [], [], [], [], [], []] : List (List Nat)) := by rw [hT]; rfl
  refine wp_region_gen (JW w2.heap.size w2 [0] T ([[], [], [], [], [], [], [], [], [], [], [], [], [], [], [], [], [], [], []] : List (List Nat)) ([none, none, none, none, none, none, none, none, none, none, none, none, none, none, none, none, none, none, none] : List (Option Nat)) ([] : List (Nat × Nat)) 100000) (by kernel_rfl) (by kernel_rfl) (by kernel_rfl) (fitB_spec (by kernel_rfl)) (fun listed f h => JW.start (Nat.le_refl _) listed f h) ?_ ?_
  ·intro i o ho
   have hi : i < 19 := (Array.getElem?_eq_some_iff.1 ho).1
   have hi' : i = 0 ∨ i = 1 ∨ i = 2 ∨ i = 3 ∨ i = 4 ∨ i = 5 ∨ i = 6 ∨ i = 7 ∨ i = 8 ∨ i = 9 ∨ i = 10 ∨ i = 11 ∨ i = 12 ∨ i = 13 ∨ i = 14 ∨ i = 15 ∨ i = 16 ∨ i = 17 ∨ i = 18 := by omega
   clear hi
   rcases hi' with rfl | rfl | rfl | rfl | rfl | rfl | rfl | rfl | rfl | rfl | rfl | rfl | rfl | rfl | rfl | rfl | rfl | rfl | rfl
   all_goals (simp only [List.getElem?_toArray, List.getElem?_cons_zero, List.getElem?_cons_succ, Option.some.injEq] at ho; subst ho; intro listed f a w3 hJ hsz hls hun hdep hout hlat; first | (rw [if_pos (by rfl)]; intro K hK) | skip)
   ·have q4 := hout 4 (outB_spec (by kernel_rfl))
    exact ld_v (.tmp 4) g x rfl q4 (HD.out.ext hJ.ext.below) (hK _ _ (hJ.plain HTY (by rw [hls]; decide) (Ex.refl _) (by rw [hT]; rfl) (no_head (by decide))))
   ·have dd15 := hdep ⟨0, .data⟩ (by simp) rfl
    have q15 := dd15.2 _ rfl _ rfl
    have h15 := hJ.vals 0 dd15.1 (fun c hc => by have hc : none = some c := hc; cases hc)
    rw [hT] at h15
    rw [show f 0 = x.V from h15] at q15
    clear h15
    clear dd15
    rw [Array.getD_eq_getD_getElem?] at q15
    clear hsz hdep hout hlat
    go_simp
    refine (vright_any x w3 (XV.out.ext (Ex.trans BW.out hJ.ext.below))).mono ?_
    rintro e w4 ⟨rfl, x3⟩
    rw [← HBR.out]
    exact hK _ _ (hJ.plain HTY (by rw [hls]; decide) x3 (by rw [hT]; rfl) (no_head (by decide)))
   ·have dd16 := hdep ⟨1, .data⟩ (by simp) rfl
    have q16 := dd16.2 _ rfl _ rfl
    have h16 := hJ.vals 1 dd16.1 (fun c hc => by have hc : none = some c := hc; cases hc)
    rw [hT] at h16
    rw [show f 1 = .bool true from h16] at q16
    clear h16
    clear dd16
    rw [Array.getD_eq_getD_getElem?] at q16
    clear hsz hdep hout hlat
    go_simp
    exact hK _ _ (hJ.plain HTY (by rw [hls]; decide) (Ex.refl _) (by rw [hT]; first | rfl | exact congrArg (Value.int .i64) (by omega) | exact congrArg (Value.int .i64) (by rw [IntKind.wrap_i64]; omega)) (no_head (by decide)))
   ·have dd17 := hdep ⟨2, .data⟩ (by simp) rfl
    have q17 := dd17.2 _ rfl _ rfl
    have h17 := hJ.vals 2 dd17.1 (fun c hc => by have hc : none = some c := hc; cases hc)
    rw [hT] at h17
    rw [show f 2 = .bool false from h17] at q17
    clear h17
    clear dd17
    refine wp_mv _ rfl (hK _ _ ?_)
    rw [show a.eval (.tmp 17) = .bool false from q17]
    exact hJ.plain HTY (by rw [hls]; decide) (Ex.refl _) (by rw [hT]; rfl) (no_head (by decide))
   ·have ddg := hdep ⟨3, .guard⟩ (by simp) rfl
    have kg := ddg.2 _ rfl _ rfl
    have hg := hJ.vals 3 ddg.1 (fun c hc => by have hc : none = some c := hc; cases hc)
    rw [hT] at hg
    rw [show f 3 = .bool false from hg] at kg
    clear hg ddg
    rw [if_pos (wanted_of rfl rfl rfl kg)]
    clear kg
    intro K hK
    have q3 := hout 3 (outB_spec (by kernel_rfl))
    refine wp_mv _ rfl (hK _ _ ?_)
    rw [show a.eval (.tmp 3) = .int .i64 (0 : Nat) from q3]
    exact hJ.plain HTY (by rw [hls]; decide) (Ex.refl _) (by rw [hT]; rfl) (no_head (by decide))
   ·have ddg := hdep ⟨3, .guard⟩ (by simp) rfl
    have kg := ddg.2 _ rfl _ rfl
    have hg := hJ.vals 3 ddg.1 (fun c hc => by have hc : none = some c := hc; cases hc)
    rw [hT] at hg
    rw [show f 3 = .bool false from hg] at kg
    clear hg ddg
    rw [if_pos (wanted_of rfl rfl rfl kg)]
    clear kg
    intro K hK
    have dd19 := hdep ⟨4, .data⟩ (by simp) rfl
    have q19 := dd19.2 _ rfl _ rfl
    have h19 := hJ.vals 4 dd19.1 (fun c hc => by have hc : none = some c := hc; cases hc)
    rw [hT] at h19
    rw [show f 4 = .int .i64 (0 : Nat) from h19] at q19
    clear h19
    clear dd19
    rw [Array.getD_eq_getD_getElem?] at q19
    clear hsz hdep hout hlat
    go_simp
    exact hK _ _ (hJ.plain HTY (by rw [hls]; decide) (Ex.refl _) (by rw [hT]; first | rfl | exact congrArg (Value.int .i64) (by omega) | exact congrArg (Value.int .i64) (by rw [IntKind.wrap_i64]; omega)) (no_head (by decide)))
   ·have ddg := hdep ⟨3, .guard⟩ (by simp) rfl
    have kg := ddg.2 _ rfl _ rfl
    have hg := hJ.vals 3 ddg.1 (fun c hc => by have hc : none = some c := hc; cases hc)
    rw [hT] at hg
    rw [show f 3 = .bool false from hg] at kg
    clear hg ddg
    rw [if_pos (wanted_of rfl rfl rfl kg)]
    clear kg
    intro K hK
    have dd20 := hdep ⟨5, .data⟩ (by simp) rfl
    have q20 := dd20.2 _ rfl _ rfl
    have h20 := hJ.vals 5 dd20.1 (fun c hc => by have hc : none = some c := hc; cases hc)
    rw [hT] at h20
    rw [show f 5 = .bool false from h20] at q20
    clear h20
    clear dd20
    refine wp_mv _ rfl (hK _ _ ?_)
    rw [show a.eval (.tmp 20) = .bool false from q20]
    exact hJ.plain HTY (by rw [hls]; decide) (Ex.refl _) (by rw [hT]; rfl) (no_head (by decide))
   iterate 10
    focus
     have ddg := hdep ⟨6, .guard⟩ (by simp) rfl
     have kg := ddg.2 _ rfl _ rfl
     have hg := hJ.vals 6 ddg.1 (fun c hc => by have hc : none = some c := hc; cases hc)
     rw [hT] at hg
     rw [show f 6 = .bool false from hg] at kg
     clear hg ddg
     rw [if_neg (not_wanted rfl rfl rfl kg (by decide))]
     exact hJ.plain HTY (by rw [hls]; decide) (Ex.refl _) (by rw [hT]; first | exact trivial | rfl) (no_head (by decide))
   ·have ddg := hdep ⟨3, .guard⟩ (by simp) rfl
    have kg := ddg.2 _ rfl _ rfl
    have hg := hJ.vals 3 ddg.1 (fun c hc => by have hc : none = some c := hc; cases hc)
    rw [hT] at hg
    rw [show f 3 = .bool false from hg] at kg
    clear hg ddg
    rw [if_pos (wanted_of rfl rfl rfl kg)]
    clear kg
    intro K hK
    have dd21 := hdep ⟨6, .data⟩ (by simp) rfl
    have q21 := dd21.2 _ rfl _ rfl
    have h21 := hJ.vals 6 dd21.1 (fun c hc => by have hc : none = some c := hc; cases hc)
    rw [hT] at h21
    rw [show f 6 = .bool false from h21] at q21
    clear h21
    clear dd21
    have dd31 := hdep ⟨16, .data⟩ (by simp) rfl
    have q31 := dd31.2 _ rfl _ rfl
    have h31 := hJ.vals 16 dd31.1 (fun c hc => by have hc : none = some c := hc; cases hc)
    rw [hT] at h31
    rw [show f 16 = undef from h31] at q31
    clear h31
    clear dd31
    rw [Array.getD_eq_getD_getElem?] at q21 q31
    clear hsz hdep hout hlat
    go_simp
    exact hK _ _ (hJ.plain HTY (by rw [hls]; decide) (Ex.refl _) (by rw [hT]; first | rfl | exact congrArg (Value.int .i64) (by omega) | exact congrArg (Value.int .i64) (by rw [IntKind.wrap_i64]; omega)) (no_head (by decide)))
   have dd18 := hdep ⟨3, .data⟩ (by simp) rfl
   have q18 := dd18.2 _ rfl _ rfl
   have h18 := hJ.vals 3 dd18.1 (fun c hc => by have hc : none = some c := hc; cases hc)
   rw [hT] at h18
   rw [show f 3 = .bool false from h18] at q18
   clear h18
   clear dd18
   have dd32 := hdep ⟨17, .data⟩ (by simp) rfl
   have q32 := dd32.2 _ rfl _ rfl
   have h32 := hJ.vals 17 dd32.1 (fun c hc => by have hc : none = some c := hc; cases hc)
   rw [hT] at h32
   rw [show f 17 = .bool false from h32] at q32
   clear h32
   clear dd32
   rw [Array.getD_eq_getD_getElem?] at q18 q32
   clear hsz hdep hout hlat
   go_simp
   exact hK _ _ (hJ.plain HTY (by rw [hls]; decide) (Ex.refl _) (by rw [hT]; first | rfl | exact congrArg (Value.int .i64) (by omega) | exact congrArg (Value.int .i64) (by rw [IntKind.wrap_i64]; omega)) (no_head (by decide)))
  intro listed f w3 hall hJ
  have f18 : f 18 = .bool false := by
   have h := hJ.vals 18 (hall 18 (by simp)) (fun c hc => by have hc : none = some c := hc; cases hc)
   rw [hT] at h; exact h
  have xk := hJ.ext
  simp only [putAll, Act.put, List.setIfInBounds_toArray, List.set_cons_zero, List.set_cons_succ, Nat.zero_add, Nat.reduceAdd]
  rw [f18]
  clear f18
  clear hJ hall hT HTY
  replace BW := Hi (Ex.trans BW.out (show Ex w2 w3 from xk.below))
  clear xk
  go_wp2_with fail
  go_roundw
  case rel => exact ⟨1, by omega, by first | rfl | go_num, Hi (fun j hj => by
          obtain rfl : j = 0 := by omega
          exact ⟨x, HXK.out, HBR.out.symm, fun i hi => by omega⟩), BW⟩
  case measure => simp [intOf]; omega
 obtain ⟨y, hy⟩ : ∃ y, xs[k1]? = some y := ⟨_, List.getElem?_eq_getElem (by rw [← HN.out]; omega)⟩
 have k1i : (k1 : Int) < (n : Int) := by omega
 have k1z : (0 : Int) ≤ (k1 : Int) := by omega
 have YR := Hi (HRA.out k1 y hy)
 have YV := Hi (HVI.out k1 y hy)
 have HFY := Hi (idF_at xs k1 y hy)
 have HFX := Hi (idF_at xs (k1 + 1) x HXK.out)
 obtain ⟨cv, hcv⟩ : ∃ c, c = cmpN (idn y.id) (idn x.id) := ⟨_, rfl⟩
 have HCV := Hi hcv.symm
 by_cases hf : idn y.id < idn x.id
 ·have hc1 : ¬ (0 : Int) ≤ cv := by rw [hcv]; unfold cmpN; rw [if_pos hf]; decide
  have HF := Hi hf
  clear hcv hf hy
  go_wp2_with fail
  obtain ⟨T, hT⟩ : ∃ T : List (Rw w2.heap.size), T = [.is (x.V), .is (.bool true), .is (.bool false), .is (.bool false), .is (.int .i64 (k1 + 1 : Nat)), .is (.bool true), .is (.bool true), .is (.slice (some ⟨ab, o, none⟩) n cap), .is (.int .i64 (k1 + 1 : Nat)), .is (.int .i64 k1), .is (.pointer (some ⟨ab, o + k1 * 42, none⟩)), .is (.pointer (some ⟨ab, o + k1 * 42, none⟩)), .is (.slice (some ⟨ab, o + k1 * 42, none⟩) 4 4), .is (.pointer (some ⟨g, 0, none⟩)), .is (.slice (some ⟨g, 0, none⟩) 4 4), .is (.int .i64 cv), .is (.bool false), .is (.bool false), .is (.bool false)] := ⟨_, rfl⟩
  have HTY : T.map Rw.tys = ([[], [], [], [], [], [], [], [], [], [], [], [], [], [], [], [], [], [], []] : List (List Nat)) := by rw [hT]; rfl
  refine wp_region_gen (JW w2.heap.size w2 [0] T ([[], [], [], [], [], [], [], [], [], [], [], [], [], [], [], [], [], [], []] : List (List Nat)) ([none, none, none, none, none, none, none, none, none, none, none, none, none, none, none, none, none, none, none] : List (Option Nat)) ([] : List (Nat × Nat)) 100000) (by kernel_rfl) (by kernel_rfl) (by kernel_rfl) (fitB_spec (by kernel_rfl)) (fun listed f h => JW.start (Nat.le_refl _) listed f h) ?_ ?_
  ·intro i o ho
   have hi : i < 19 := (Array.getElem?_eq_some_iff.1 ho).1
   have hi' : i = 0 ∨ i = 1 ∨ i = 2 ∨ i = 3 ∨ i = 4 ∨ i = 5 ∨ i = 6 ∨ i = 7 ∨ i = 8 ∨ i = 9 ∨ i = 10 ∨ i = 11 ∨ i = 12 ∨ i = 13 ∨ i = 14 ∨ i = 15 ∨ i = 16 ∨ i = 17 ∨ i = 18 := by omega
   clear hi
   rcases hi' with rfl | rfl | rfl | rfl | rfl | rfl | rfl | rfl | rfl | rfl | rfl | rfl | rfl | rfl | rfl | rfl | rfl | rfl | rfl
   all_goals (simp only [List.getElem?_toArray, List.getElem?_cons_zero, List.getElem?_cons_succ, Option.some.injEq] at ho; subst ho; intro listed f a w3 hJ hsz hls hun hdep hout hlat; first | (rw [if_pos (by rfl)]; intro K hK) | skip)
   ·have q4 := hout 4 (outB_spec (by kernel_rfl))
    exact ld_v (.tmp 4) g x rfl q4 (HD.out.ext hJ.ext.below) (hK _ _ (hJ.plain HTY (by rw [hls]; decide) (Ex.refl _) (by rw [hT]; rfl) (no_head (by decide))))
   ·have dd15 := hdep ⟨0, .data⟩ (by simp) rfl
    have q15 := dd15.2 _ rfl _ rfl
    have h15 := hJ.vals 0 dd15.1 (fun c hc => by have hc : none = some c := hc; cases hc)
    rw [hT] at h15
    rw [show f 0 = x.V from h15] at q15
    clear h15
    clear dd15
    rw [Array.getD_eq_getD_getElem?] at q15
    clear hsz hdep hout hlat
    go_simp
    refine (vright_any x w3 (XV.out.ext (Ex.trans BW.out hJ.ext.below))).mono ?_
    rintro e w4 ⟨rfl, x3⟩
    rw [← HBR.out]
    exact hK _ _ (hJ.plain HTY (by rw [hls]; decide) x3 (by rw [hT]; rfl) (no_head (by decide)))
   ·have dd16 := hdep ⟨1, .data⟩ (by simp) rfl
    have q16 := dd16.2 _ rfl _ rfl
    have h16 := hJ.vals 1 dd16.1 (fun c hc => by have hc : none = some c := hc; cases hc)
    rw [hT] at h16
    rw [show f 1 = .bool true from h16] at q16
    clear h16
    clear dd16
    rw [Array.getD_eq_getD_getElem?] at q16
    clear hsz hdep hout hlat
    go_simp
    exact hK _ _ (hJ.plain HTY (by rw [hls]; decide) (Ex.refl _) (by rw [hT]; first | rfl | exact congrArg (Value.int .i64) (by omega) | exact congrArg (Value.int .i64) (by rw [IntKind.wrap_i64]; omega)) (no_head (by decide)))
   ·have dd17 := hdep ⟨2, .data⟩ (by simp) rfl
    have q17 := dd17.2 _ rfl _ rfl
    have h17 := hJ.vals 2 dd17.1 (fun c hc => by have hc : none = some c := hc; cases hc)
    rw [hT] at h17
    rw [show f 2 = .bool false from h17] at q17
    clear h17
    clear dd17
    refine wp_mv _ rfl (hK _ _ ?_)
    rw [show a.eval (.tmp 17) = .bool false from q17]
    exact hJ.plain HTY (by rw [hls]; decide) (Ex.refl _) (by rw [hT]; rfl) (no_head (by decide))
   ·have ddg := hdep ⟨3, .guard⟩ (by simp) rfl
    have kg := ddg.2 _ rfl _ rfl
    have hg := hJ.vals 3 ddg.1 (fun c hc => by have hc : none = some c := hc; cases hc)
    rw [hT] at hg
    rw [show f 3 = .bool false from hg] at kg
    clear hg ddg
    rw [if_pos (wanted_of rfl rfl rfl kg)]
    clear kg
    intro K hK
    have q3 := hout 3 (outB_spec (by kernel_rfl))
    refine wp_mv _ rfl (hK _ _ ?_)
    rw [show a.eval (.tmp 3) = .int .i64 (k1 + 1 : Nat) from q3]
    exact hJ.plain HTY (by rw [hls]; decide) (Ex.refl _) (by rw [hT]; rfl) (no_head (by decide))
   ·have ddg := hdep ⟨3, .guard⟩ (by simp) rfl
    have kg := ddg.2 _ rfl _ rfl
    have hg := hJ.vals 3 ddg.1 (fun c hc => by have hc : none = some c := hc; cases hc)
    rw [hT] at hg
    rw [show f 3 = .bool false from hg] at kg
    clear hg ddg
    rw [if_pos (wanted_of rfl rfl rfl kg)]
    clear kg
    intro K hK
    have dd19 := hdep ⟨4, .data⟩ (by simp) rfl
    have q19 := dd19.2 _ rfl _ rfl
    have h19 := hJ.vals 4 dd19.1 (fun c hc => by have hc : none = some c := hc; cases hc)
    rw [hT] at h19
    rw [show f 4 = .int .i64 (k1 + 1 : Nat) from h19] at q19
    clear h19
    clear dd19
    rw [Array.getD_eq_getD_getElem?] at q19
    have qk : (0 : Int) < ((k1 + 1 : Nat) : Int) := by omega
    clear hsz hdep hout hlat
    go_simp
    exact hK _ _ (hJ.plain HTY (by rw [hls]; decide) (Ex.refl _) (by rw [hT]; first | rfl | simp) (no_head (by decide)))
   ·have ddg := hdep ⟨3, .guard⟩ (by simp) rfl
    have kg := ddg.2 _ rfl _ rfl
    have hg := hJ.vals 3 ddg.1 (fun c hc => by have hc : none = some c := hc; cases hc)
    rw [hT] at hg
    rw [show f 3 = .bool false from hg] at kg
    clear hg ddg
    rw [if_pos (wanted_of rfl rfl rfl kg)]
    clear kg
    intro K hK
    have dd20 := hdep ⟨5, .data⟩ (by simp) rfl
    have q20 := dd20.2 _ rfl _ rfl
    have h20 := hJ.vals 5 dd20.1 (fun c hc => by have hc : none = some c := hc; cases hc)
    rw [hT] at h20
    rw [show f 5 = .bool true from h20] at q20
    clear h20
    clear dd20
    refine wp_mv _ rfl (hK _ _ ?_)
    rw [show a.eval (.tmp 20) = .bool true from q20]
    exact hJ.plain HTY (by rw [hls]; decide) (Ex.refl _) (by rw [hT]; rfl) (no_head (by decide))
   ·have ddg := hdep ⟨6, .guard⟩ (by simp) rfl
    have kg := ddg.2 _ rfl _ rfl
    have hg := hJ.vals 6 ddg.1 (fun c hc => by have hc : none = some c := hc; cases hc)
    rw [hT] at hg
    rw [show f 6 = .bool true from hg] at kg
    clear hg ddg
    rw [if_pos (wanted_of rfl rfl rfl kg)]
    clear kg
    intro K hK
    have q0 := hout 0 (outB_spec (by kernel_rfl))
    refine wp_mv _ rfl (hK _ _ ?_)
    rw [show a.eval (.tmp 0) = .slice (some ⟨ab, o, none⟩) n cap from q0]
    exact hJ.plain HTY (by rw [hls]; decide) (Ex.refl _) (by rw [hT]; rfl) (no_head (by decide))
   ·have ddg := hdep ⟨6, .guard⟩ (by simp) rfl
    have kg := ddg.2 _ rfl _ rfl
    have hg := hJ.vals 6 ddg.1 (fun c hc => by have hc : none = some c := hc; cases hc)
    rw [hT] at hg
    rw [show f 6 = .bool true from hg] at kg
    clear hg ddg
    rw [if_pos (wanted_of rfl rfl rfl kg)]
    clear kg
    intro K hK
    have q3 := hout 3 (outB_spec (by kernel_rfl))
    refine wp_mv _ rfl (hK _ _ ?_)
    rw [show a.eval (.tmp 3) = .int .i64 (k1 + 1 : Nat) from q3]
    exact hJ.plain HTY (by rw [hls]; decide) (Ex.refl _) (by rw [hT]; rfl) (no_head (by decide))
   ·have ddg := hdep ⟨6, .guard⟩ (by simp) rfl
    have kg := ddg.2 _ rfl _ rfl
    have hg := hJ.vals 6 ddg.1 (fun c hc => by have hc : none = some c := hc; cases hc)
    rw [hT] at hg
    rw [show f 6 = .bool true from hg] at kg
    clear hg ddg
    rw [if_pos (wanted_of rfl rfl rfl kg)]
    clear kg
    intro K hK
    have dd23 := hdep ⟨8, .data⟩ (by simp) rfl
    have q23 := dd23.2 _ rfl _ rfl
    have h23 := hJ.vals 8 dd23.1 (fun c hc => by have hc : none = some c := hc; cases hc)
    rw [hT] at h23
    rw [show f 8 = .int .i64 (k1 + 1 : Nat) from h23] at q23
    clear h23
    clear dd23
    rw [Array.getD_eq_getD_getElem?] at q23
    clear hsz hdep hout hlat
    go_simp
    exact hK _ _ (hJ.plain HTY (by rw [hls]; decide) (Ex.refl _) (by rw [hT]; first | rfl | exact congrArg (Value.int .i64) (by omega) | exact congrArg (Value.int .i64) (by rw [IntKind.wrap_i64]; omega)) (no_head (by decide)))
   ·have ddg := hdep ⟨6, .guard⟩ (by simp) rfl
    have kg := ddg.2 _ rfl _ rfl
    have hg := hJ.vals 6 ddg.1 (fun c hc => by have hc : none = some c := hc; cases hc)
    rw [hT] at hg
    rw [show f 6 = .bool true from hg] at kg
    clear hg ddg
    rw [if_pos (wanted_of rfl rfl rfl kg)]
    clear kg
    intro K hK
    have dd22 := hdep ⟨7, .data⟩ (by simp) rfl
    have q22 := dd22.2 _ rfl _ rfl
    have h22 := hJ.vals 7 dd22.1 (fun c hc => by have hc : none = some c := hc; cases hc)
    rw [hT] at h22
    rw [show f 7 = .slice (some ⟨ab, o, none⟩) n cap from h22] at q22
    clear h22
    clear dd22
    have dd24 := hdep ⟨9, .data⟩ (by simp) rfl
    have q24 := dd24.2 _ rfl _ rfl
    have h24 := hJ.vals 9 dd24.1 (fun c hc => by have hc : none = some c := hc; cases hc)
    rw [hT] at h24
    rw [show f 9 = .int .i64 k1 from h24] at q24
    clear h24
    clear dd24
    rw [Array.getD_eq_getD_getElem?] at q22 q24
    clear hsz hdep hout hlat
    go_simp
    exact hK _ _ (hJ.plain HTY (by rw [hls]; decide) (Ex.refl _) (by rw [hT]; first | rfl | exact congrArg (Value.int .i64) (by omega) | exact congrArg (Value.int .i64) (by rw [IntKind.wrap_i64]; omega)) (no_head (by decide)))
   ·have ddg := hdep ⟨6, .guard⟩ (by simp) rfl
    have kg := ddg.2 _ rfl _ rfl
    have hg := hJ.vals 6 ddg.1 (fun c hc => by have hc : none = some c := hc; cases hc)
    rw [hT] at hg
    rw [show f 6 = .bool true from hg] at kg
    clear hg ddg
    rw [if_pos (wanted_of rfl rfl rfl kg)]
    clear kg
    intro K hK
    have dd25 := hdep ⟨10, .data⟩ (by simp) rfl
    have q25 := dd25.2 _ rfl _ rfl
    have h25 := hJ.vals 10 dd25.1 (fun c hc => by have hc : none = some c := hc; cases hc)
    rw [hT] at h25
    rw [show f 10 = .pointer (some ⟨ab, o + k1 * 42, none⟩) from h25] at q25
    clear h25
    clear dd25
    rw [Array.getD_eq_getD_getElem?] at q25
    clear hsz hdep hout hlat
    go_simp
    exact hK _ _ (hJ.plain HTY (by rw [hls]; decide) (Ex.refl _) (by rw [hT]; first | rfl | exact congrArg (Value.int .i64) (by omega) | exact congrArg (Value.int .i64) (by rw [IntKind.wrap_i64]; omega)) (no_head (by decide)))
   ·have ddg := hdep ⟨6, .guard⟩ (by simp) rfl
    have kg := ddg.2 _ rfl _ rfl
    have hg := hJ.vals 6 ddg.1 (fun c hc => by have hc : none = some c := hc; cases hc)
    rw [hT] at hg
    rw [show f 6 = .bool true from hg] at kg
    clear hg ddg
    rw [if_pos (wanted_of rfl rfl rfl kg)]
    clear kg
    intro K hK
    have dd26 := hdep ⟨11, .data⟩ (by simp) rfl
    have q26 := dd26.2 _ rfl _ rfl
    have h26 := hJ.vals 11 dd26.1 (fun c hc => by have hc : none = some c := hc; cases hc)
    rw [hT] at h26
    rw [show f 11 = .pointer (some ⟨ab, o + k1 * 42, none⟩) from h26] at q26
    clear h26
    clear dd26
    rw [Array.getD_eq_getD_getElem?] at q26
    clear hsz hdep hout hlat
    go_simp
    exact hK _ _ (hJ.plain HTY (by rw [hls]; decide) (Ex.refl _) (by rw [hT]; first | rfl | exact congrArg (Value.int .i64) (by omega) | exact congrArg (Value.int .i64) (by rw [IntKind.wrap_i64]; omega)) (no_head (by decide)))
   ·have ddg := hdep ⟨6, .guard⟩ (by simp) rfl
    have kg := ddg.2 _ rfl _ rfl
    have hg := hJ.vals 6 ddg.1 (fun c hc => by have hc : none = some c := hc; cases hc)
    rw [hT] at hg
    rw [show f 6 = .bool true from hg] at kg
    clear hg ddg
    rw [if_pos (wanted_of rfl rfl rfl kg)]
    clear kg
    intro K hK
    have q4 := hout 4 (outB_spec (by kernel_rfl))
    rw [Array.getD_eq_getD_getElem?] at q4
    clear hsz hdep hout hlat
    go_simp
    exact hK _ _ (hJ.plain HTY (by rw [hls]; decide) (Ex.refl _) (by rw [hT]; first | rfl | exact congrArg (Value.int .i64) (by omega) | exact congrArg (Value.int .i64) (by rw [IntKind.wrap_i64]; omega)) (no_head (by decide)))
   ·have ddg := hdep ⟨6, .guard⟩ (by simp) rfl
    have kg := ddg.2 _ rfl _ rfl
    have hg := hJ.vals 6 ddg.1 (fun c hc => by have hc : none = some c := hc; cases hc)
    rw [hT] at hg
    rw [show f 6 = .bool true from hg] at kg
    clear hg ddg
    rw [if_pos (wanted_of rfl rfl rfl kg)]
    clear kg
    intro K hK
    have dd28 := hdep ⟨13, .data⟩ (by simp) rfl
    have q28 := dd28.2 _ rfl _ rfl
    have h28 := hJ.vals 13 dd28.1 (fun c hc => by have hc : none = some c := hc; cases hc)
    rw [hT] at h28
    rw [show f 13 = .pointer (some ⟨g, 0, none⟩) from h28] at q28
    clear h28
    clear dd28
    rw [Array.getD_eq_getD_getElem?] at q28
    clear hsz hdep hout hlat
    go_simp
    exact hK _ _ (hJ.plain HTY (by rw [hls]; decide) (Ex.refl _) (by rw [hT]; first | rfl | exact congrArg (Value.int .i64) (by omega) | exact congrArg (Value.int .i64) (by rw [IntKind.wrap_i64]; omega)) (no_head (by decide)))
   ·have ddg := hdep ⟨6, .guard⟩ (by simp) rfl
    have kg := ddg.2 _ rfl _ rfl
    have hg := hJ.vals 6 ddg.1 (fun c hc => by have hc : none = some c := hc; cases hc)
    rw [hT] at hg
    rw [show f 6 = .bool true from hg] at kg
    clear hg ddg
    rw [if_pos (wanted_of rfl rfl rfl kg)]
    clear kg
    intro K hK
    have dd27 := hdep ⟨12, .data⟩ (by simp) rfl
    have q27 := dd27.2 _ rfl _ rfl
    have h27 := hJ.vals 12 dd27.1 (fun c hc => by have hc : none = some c := hc; cases hc)
    rw [hT] at h27
    rw [show f 12 = .slice (some ⟨ab, o + k1 * 42, none⟩) 4 4 from h27] at q27
    clear h27
    clear dd27
    have dd29 := hdep ⟨14, .data⟩ (by simp) rfl
    have q29 := dd29.2 _ rfl _ rfl
    have h29 := hJ.vals 14 dd29.1 (fun c hc => by have hc : none = some c := hc; cases hc)
    rw [hT] at h29
    rw [show f 14 = .slice (some ⟨g, 0, none⟩) 4 4 from h29] at q29
    clear h29
    clear dd29
    rw [Array.getD_eq_getD_getElem?] at q27 q29
    clear hsz hdep hout hlat
    go_simp
    have b1 := id_row (fun j u hu => (Below.cell (p := ⟨ab, o + k1 * 42 + j, none⟩) (Ex.trans XX.out hJ.ext.below) HAB.out).trans (YR.out j u hu)) YV.out.ok (Nat.lt_of_lt_of_le HAB2.out (Below.size hJ.ext.below))
    have b2 := id_row (HD.out.ext hJ.ext.below).2.range XV.out.ok (HD.out.ext hJ.ext.below).2.lt
    refine (bcmp4 ab g (o + k1 * 42) 0 y.id x.id YV.out.ok.idN XV.out.ok.idN w3 b1 b2).mono ?_
    rintro e w4 ⟨rfl, rfl⟩
    rw [HCV.out]
    exact hK _ _ (hJ.plain HTY (by rw [hls]; decide) (Ex.refl _) (by rw [hT]; rfl) (no_head (by decide)))
   ·have ddg := hdep ⟨6, .guard⟩ (by simp) rfl
    have kg := ddg.2 _ rfl _ rfl
    have hg := hJ.vals 6 ddg.1 (fun c hc => by have hc : none = some c := hc; cases hc)
    rw [hT] at hg
    rw [show f 6 = .bool true from hg] at kg
    clear hg ddg
    rw [if_pos (wanted_of rfl rfl rfl kg)]
    clear kg
    intro K hK
    have dd30 := hdep ⟨15, .data⟩ (by simp) rfl
    have q30 := dd30.2 _ rfl _ rfl
    have h30 := hJ.vals 15 dd30.1 (fun c hc => by have hc : none = some c := hc; cases hc)
    rw [hT] at h30
    rw [show f 15 = .int .i64 cv from h30] at q30
    clear h30
    clear dd30
    rw [Array.getD_eq_getD_getElem?] at q30
    clear hsz hdep hout hlat
    go_simp
    exact hK _ _ (hJ.plain HTY (by rw [hls]; decide) (Ex.refl _) (by rw [hT]; first | rfl | exact congrArg Value.bool (decide_eq_false (by omega)) | exact congrArg Value.bool (decide_eq_true (by omega))) (no_head (by decide)))
   ·have ddg := hdep ⟨3, .guard⟩ (by simp) rfl
    have kg := ddg.2 _ rfl _ rfl
    have hg := hJ.vals 3 ddg.1 (fun c hc => by have hc : none = some c := hc; cases hc)
    rw [hT] at hg
    rw [show f 3 = .bool false from hg] at kg
    clear hg ddg
    rw [if_pos (wanted_of rfl rfl rfl kg)]
    clear kg
    intro K hK
    have dd21 := hdep ⟨6, .data⟩ (by simp) rfl
    have q21 := dd21.2 _ rfl _ rfl
    have h21 := hJ.vals 6 dd21.1 (fun c hc => by have hc : none = some c := hc; cases hc)
    rw [hT] at h21
    rw [show f 6 = .bool true from h21] at q21
    clear h21
    clear dd21
    have dd31 := hdep ⟨16, .data⟩ (by simp) rfl
    have q31 := dd31.2 _ rfl _ rfl
    have h31 := hJ.vals 16 dd31.1 (fun c hc => by have hc : none = some c := hc; cases hc)
    rw [hT] at h31
    rw [show f 16 = .bool false from h31] at q31
    clear h31
    clear dd31
    rw [Array.getD_eq_getD_getElem?] at q21 q31
    clear hsz hdep hout hlat
    go_simp
    exact hK _ _ (hJ.plain HTY (by rw [hls]; decide) (Ex.refl _) (by rw [hT]; first | rfl | exact congrArg (Value.int .i64) (by omega) | exact congrArg (Value.int .i64) (by rw [IntKind.wrap_i64]; omega)) (no_head (by decide)))
   have dd18 := hdep ⟨3, .data⟩ (by simp) rfl
   have q18 := dd18.2 _ rfl _ rfl
   have h18 := hJ.vals 3 dd18.1 (fun c hc => by have hc : none = some c := hc; cases hc)
   rw [hT] at h18
   rw [show f 3 = .bool false from h18] at q18
   clear h18
   clear dd18
   have dd32 := hdep ⟨17, .data⟩ (by simp) rfl
   have q32 := dd32.2 _ rfl _ rfl
   have h32 := hJ.vals 17 dd32.1 (fun c hc => by have hc : none = some c := hc; cases hc)
   rw [hT] at h32
   rw [show f 17 = .bool false from h32] at q32
   clear h32
   clear dd32
   rw [Array.getD_eq_getD_getElem?] at q18 q32
   clear hsz hdep hout hlat
   go_simp
   exact hK _ _ (hJ.plain HTY (by rw [hls]; decide) (Ex.refl _) (by rw [hT]; first | rfl | exact congrArg (Value.int .i64) (by omega) | exact congrArg (Value.int .i64) (by rw [IntKind.wrap_i64]; omega)) (no_head (by decide)))
  intro listed f w3 hall hJ
  have f18 : f 18 = .bool false := by
   have h := hJ.vals 18 (hall 18 (by simp)) (fun c hc => by have hc : none = some c := hc; cases hc)
   rw [hT] at h; exact h
  have xk := hJ.ext
  simp only [putAll, Act.put, List.setIfInBounds_toArray, List.set_cons_zero, List.set_cons_succ, Nat.zero_add, Nat.reduceAdd]
  rw [f18]
  clear f18
  clear hJ hall hT HTY
  replace BW := Hi (Ex.trans BW.out (show Ex w2 w3 from xk.below))
  clear xk
  go_wp2_with fail
  go_roundw
  case rel => exact ⟨k1 + 1 + 1, by omega, by go_num, Hi (fun j hj => by
           rcases Nat.lt_or_ge j (k1 + 1) with h | h
           ·exact HG.out j h
           ·obtain rfl : j = k1 + 1 := by omega
            exact ⟨x, HXK.out, HBR.out.symm, fun i hi => by
             obtain rfl : i = k1 := by omega
             rw [HFY.out, HFX.out]; exact HF.out⟩), BW⟩
  case measure => simp [intOf]; omega
 have hc1 : (0 : Int) ≤ cv := by rw [hcv]; unfold cmpN; rw [if_neg hf]; split <;> decide
 have HF := Hi hf
 clear hcv hf hy
 go_wp2_with fail
 obtain ⟨T, hT⟩ : ∃ T : List (Rw w2.heap.size), T = [.is (x.V), .is (.bool true), .is (.bool false), .is (.bool false), .is (.int .i64 (k1 + 1 : Nat)), .is (.bool true), .is (.bool true), .is (.slice (some ⟨ab, o, none⟩) n cap), .is (.int .i64 (k1 + 1 : Nat)), .is (.int .i64 k1), .is (.pointer (some ⟨ab, o + k1 * 42, none⟩)), .is (.pointer (some ⟨ab, o + k1 * 42, none⟩)), .is (.slice (some ⟨ab, o + k1 * 42, none⟩) 4 4), .is (.pointer (some ⟨g, 0, none⟩)), .is (.slice (some ⟨g, 0, none⟩) 4 4), .is (.int .i64 cv), .is (.bool true), .is (.bool true), .is (.bool true)] := ⟨_, rfl⟩
 have HTY : T.map Rw.tys = ([[], [], [], [], [], [], [], [], [], [], [], [], [], [], [], [], [], [], []] : List (List Nat)) := by rw [hT]; rfl
 refine wp_region_gen (JW w2.heap.size w2 [0] T ([[], [], [], [], [], [], [], [], [], [], [], [], [], [], [], [], [], [], []] : List (List Nat)) ([none, none, none, none, none, none, none, none, none, none, none, none, none, none, none, none, none, none, none] : List (Option Nat)) ([] : List (Nat × Nat)) 100000) (by kernel_rfl) (by kernel_rfl) (by kernel_rfl) (fitB_spec (by kernel_rfl)) (fun listed f h => JW.start (Nat.le_refl _) listed f h) ?_ ?_
 ·intro i o ho
  have hi : i < 19 := (Array.getElem?_eq_some_iff.1 ho).1
  have hi' : i = 0 ∨ i = 1 ∨ i = 2 ∨ i = 3 ∨ i = 4 ∨ i = 5 ∨ i = 6 ∨ i = 7 ∨ i = 8 ∨ i = 9 ∨ i = 10 ∨ i = 11 ∨ i = 12 ∨ i = 13 ∨ i = 14 ∨ i = 15 ∨ i = 16 ∨ i = 17 ∨ i = 18 := by omega
  clear hi
  rcases hi' with rfl | rfl | rfl | rfl | rfl | rfl | rfl | rfl | rfl | rfl | rfl | rfl | rfl | rfl | rfl | rfl | rfl | rfl | rfl
  all_goals (simp only [List.getElem?_toArray, List.getElem?_cons_zero, List.getElem?_cons_succ, Option.some.injEq] at ho; subst ho; intro listed f a w3 hJ hsz hls hun hdep hout hlat; first | (rw [if_pos (by rfl)]; intro K hK) | skip)
  ·have q4 := hout 4 (outB_spec (by kernel_rfl))
   exact ld_v (.tmp 4) g x rfl q4 (HD.out.ext hJ.ext.below) (hK _ _ (hJ.plain HTY (by rw [hls]; decide) (Ex.refl _) (by rw [hT]; rfl) (no_head (by decide))))
  ·have dd15 := hdep ⟨0, .data⟩ (by simp) rfl
   have q15 := dd15.2 _ rfl _ rfl
   have h15 := hJ.vals 0 dd15.1 (fun c hc => by have hc : none = some c := hc; cases hc)
   rw [hT] at h15
   rw [show f 0 = x.V from h15] at q15
   clear h15
   clear dd15
   rw [Array.getD_eq_getD_getElem?] at q15
   clear hsz hdep hout hlat
   go_simp
   refine (vright_any x w3 (XV.out.ext (Ex.trans BW.out hJ.ext.below))).mono ?_
   rintro e w4 ⟨rfl, x3⟩
   rw [← HBR.out]
   exact hK _ _ (hJ.plain HTY (by rw [hls]; decide) x3 (by rw [hT]; rfl) (no_head (by decide)))
  ·have dd16 := hdep ⟨1, .data⟩ (by simp) rfl
   have q16 := dd16.2 _ rfl _ rfl
   have h16 := hJ.vals 1 dd16.1 (fun c hc => by have hc : none = some c := hc; cases hc)
   rw [hT] at h16
   rw [show f 1 = .bool true from h16] at q16
   clear h16
   clear dd16
   rw [Array.getD_eq_getD_getElem?] at q16
   clear hsz hdep hout hlat
   go_simp
   exact hK _ _ (hJ.plain HTY (by rw [hls]; decide) (Ex.refl _) (by rw [hT]; first | rfl | exact congrArg (Value.int .i64) (by omega) | exact congrArg (Value.int .i64) (by rw [IntKind.wrap_i64]; omega)) (no_head (by decide)))
  ·have dd17 := hdep ⟨2, .data⟩ (by simp) rfl
   have q17 := dd17.2 _ rfl _ rfl
   have h17 := hJ.vals 2 dd17.1 (fun c hc => by have hc : none = some c := hc; cases hc)
   rw [hT] at h17
   rw [show f 2 = .bool false from h17] at q17
   clear h17
   clear dd17
   refine wp_mv _ rfl (hK _ _ ?_)
   rw [show a.eval (.tmp 17) = .bool false from q17]
   exact hJ.plain HTY (by rw [hls]; decide) (Ex.refl _) (by rw [hT]; rfl) (no_head (by decide))
  ·have ddg := hdep ⟨3, .guard⟩ (by simp) rfl
   have kg := ddg.2 _ rfl _ rfl
   have hg := hJ.vals 3 ddg.1 (fun c hc => by have hc : none = some c := hc; cases hc)
   rw [hT] at hg
   rw [show f 3 = .bool false from hg] at kg
   clear hg ddg
   rw [if_pos (wanted_of rfl rfl rfl kg)]
   clear kg
   intro K hK
   have q3 := hout 3 (outB_spec (by kernel_rfl))
   refine wp_mv _ rfl (hK _ _ ?_)
   rw [show a.eval (.tmp 3) = .int .i64 (k1 + 1 : Nat) from q3]
   exact hJ.plain HTY (by rw [hls]; decide) (Ex.refl _) (by rw [hT]; rfl) (no_head (by decide))
  ·have ddg := hdep ⟨3, .guard⟩ (by simp) rfl
   have kg := ddg.2 _ rfl _ rfl
   have hg := hJ.vals 3 ddg.1 (fun c hc => by have hc : none = some c := hc; cases hc)
   rw [hT] at hg
   rw [show f 3 = .bool false from hg] at kg
   clear hg ddg
   rw [if_pos (wanted_of rfl rfl rfl kg)]
   clear kg
   intro K hK
   have dd19 := hdep ⟨4, .data⟩ (by simp) rfl
   have q19 := dd19.2 _ rfl _ rfl
   have h19 := hJ.vals 4 dd19.1 (fun c hc => by have hc : none = some c := hc; cases hc)
   rw [hT] at h19
   rw [show f 4 = .int .i64 (k1 + 1 : Nat) from h19] at q19
   clear h19
   clear dd19
   rw [Array.getD_eq_getD_getElem?] at q19
   have qk : (0 : Int) < ((k1 + 1 : Nat) : Int) := by omega
   clear hsz hdep hout hlat
   go_simp
   exact hK _ _ (hJ.plain HTY (by rw [hls]; decide) (Ex.refl _) (by rw [hT]; first | rfl | simp) (no_head (by decide)))
  ·have ddg := hdep ⟨3, .guard⟩ (by simp) rfl
   have kg := ddg.2 _ rfl _ rfl
   have hg := hJ.vals 3 ddg.1 (fun c hc => by have hc : none = some c := hc; cases hc)
   rw [hT] at hg
   rw [show f 3 = .bool false from hg] at kg
   clear hg ddg
   rw [if_pos (wanted_of rfl rfl rfl kg)]
   clear kg
   intro K hK
   have dd20 := hdep ⟨5, .data⟩ (by simp) rfl
   have q20 := dd20.2 _ rfl _ rfl
   have h20 := hJ.vals 5 dd20.1 (fun c hc => by have hc : none = some c := hc; cases hc)
   rw [hT] at h20
   rw [show f 5 = .bool true from h20] at q20
   clear h20
   clear dd20
   refine wp_mv _ rfl (hK _ _ ?_)
   rw [show a.eval (.tmp 20) = .bool true from q20]
   exact hJ.plain HTY (by rw [hls]; decide) (Ex.refl _) (by rw [hT]; rfl) (no_head (by decide))
  ·have ddg := hdep ⟨6, .guard⟩ (by simp) rfl
   have kg := ddg.2 _ rfl _ rfl
   have hg := hJ.vals 6 ddg.1 (fun c hc => by have hc : none = some c := hc; cases hc)
   rw [hT] at hg
   rw [show f 6 = .bool true from hg] at kg
   clear hg ddg
   rw [if_pos (wanted_of rfl rfl rfl kg)]
   clear kg
   intro K hK
   have q0 := hout 0 (outB_spec (by kernel_rfl))
   refine wp_mv _ rfl (hK _ _ ?_)
   rw [show a.eval (.tmp 0) = .slice (some ⟨ab, o, none⟩) n cap from q0]
   exact hJ.plain HTY (by rw [hls]; decide) (Ex.refl _) (by rw [hT]; rfl) (no_head (by decide))
  ·have ddg := hdep ⟨6, .guard⟩ (by simp) rfl
   have kg := ddg.2 _ rfl _ rfl
   have hg := hJ.vals 6 ddg.1 (fun c hc => by have hc : none = some c := hc; cases hc)
   rw [hT] at hg
   rw [show f 6 = .bool true from hg] at kg
   clear hg ddg
   rw [if_pos (wanted_of rfl rfl rfl kg)]
   clear kg
   intro K hK
   have q3 := hout 3 (outB_spec (by kernel_rfl))
   refine wp_mv _ rfl (hK _ _ ?_)
   rw [show a.eval (.tmp 3) = .int .i64 (k1 + 1 : Nat) from q3]
   exact hJ.plain HTY (by rw [hls]; decide) (Ex.refl _) (by rw [hT]; rfl) (no_head (by decide))
  ·have ddg := hdep ⟨6, .guard⟩ (by simp) rfl
   have kg := ddg.2 _ rfl _ rfl
   have hg := hJ.vals 6 ddg.1 (fun c hc => by have hc : none = some c := hc; cases hc)
   rw [hT] at hg
   rw [show f 6 = .bool true from hg] at kg
   clear hg ddg
   rw [if_pos (wanted_of rfl rfl rfl kg)]
   clear kg
   intro K hK
   have dd23 := hdep ⟨8, .data⟩ (by simp) rfl
   have q23 := dd23.2 _ rfl _ rfl
   have h23 := hJ.vals 8 dd23.1 (fun c hc => by have hc : none = some c := hc; cases hc)
   rw [hT] at h23
   rw [show f 8 = .int .i64 (k1 + 1 : Nat) from h23] at q23
   clear h23
   clear dd23
   rw [Array.getD_eq_getD_getElem?] at q23
   clear hsz hdep hout hlat
   go_simp
   exact hK _ _ (hJ.plain HTY (by rw [hls]; decide) (Ex.refl _) (by rw [hT]; first | rfl | exact congrArg (Value.int .i64) (by omega) | exact congrArg (Value.int .i64) (by rw [IntKind.wrap_i64]; omega)) (no_head (by decide)))
  ·have ddg := hdep ⟨6, .guard⟩ (by simp) rfl
   have kg := ddg.2 _ rfl _ rfl
   have hg := hJ.vals 6 ddg.1 (fun c hc => by have hc : none = some c := hc; cases hc)
   rw [hT] at hg
   rw [show f 6 = .bool true from hg] at kg
   clear hg ddg
   rw [if_pos (wanted_of rfl rfl rfl kg)]
   clear kg
   intro K hK
   have dd22 := hdep ⟨7, .data⟩ (by simp) rfl
   have q22 := dd22.2 _ rfl _ rfl
   have h22 := hJ.vals 7 dd22.1 (fun c hc => by have hc : none = some c := hc; cases hc)
   rw [hT] at h22
   rw [show f 7 = .slice (some ⟨ab, o, none⟩) n cap from h22] at q22
   clear h22
   clear dd22
   have dd24 := hdep ⟨9, .data⟩ (by simp) rfl
   have q24 := dd24.2 _ rfl _ rfl
   have h24 := hJ.vals 9 dd24.1 (fun c hc => by have hc : none = some c := hc; cases hc)
   rw [hT] at h24
   rw [show f 9 = .int .i64 k1 from h24] at q24
   clear h24
   clear dd24
   rw [Array.getD_eq_getD_getElem?] at q22 q24
   clear hsz hdep hout hlat
   go_simp
   exact hK _ _ (hJ.plain HTY (by rw [hls]; decide) (Ex.refl _) (by rw [hT]; first | rfl | exact congrArg (Value.int .i64) (by omega) | exact congrArg (Value.int .i64) (by rw [IntKind.wrap_i64]; omega)) (no_head (by decide)))
  ·have ddg := hdep ⟨6, .guard⟩ (by simp) rfl
   have kg := ddg.2 _ rfl _ rfl
   have hg := hJ.vals 6 ddg.1 (fun c hc => by have hc : none = some c := hc; cases hc)
   rw [hT] at hg
   rw [show f 6 = .bool true from hg] at kg
   clear hg ddg
   rw [if_pos (wanted_of rfl rfl rfl kg)]
   clear kg
   intro K hK
   have dd25 := hdep ⟨10, .data⟩ (by simp) rfl
   have q25 := dd25.2 _ rfl _ rfl
   have h25 := hJ.vals 10 dd25.1 (fun c hc => by have hc : none = some c := hc; cases hc)
   rw [hT] at h25
   rw [show f 10 = .pointer (some ⟨ab, o + k1 * 42, none⟩) from h25] at q25
   clear h25
   clear dd25
   rw [Array.getD_eq_getD_getElem?] at q25
   clear hsz hdep hout hlat
   go_simp
   exact hK _ _ (hJ.plain HTY (by rw [hls]; decide) (Ex.refl _) (by rw [hT]; first | rfl | exact congrArg (Value.int .i64) (by omega) | exact congrArg (Value.int .i64) (by rw [IntKind.wrap_i64]; omega)) (no_head (by decide)))
  ·have ddg := hdep ⟨6, .guard⟩ (by simp) rfl
   have kg := ddg.2 _ rfl _ rfl
   have hg := hJ.vals 6 ddg.1 (fun c hc => by have hc : none = some c := hc; cases hc)
   rw [hT] at hg
   rw [show f 6 = .bool true from hg] at kg
   clear hg ddg
   rw [if_pos (wanted_of rfl rfl rfl kg)]
   clear kg
   intro K hK
   have dd26 := hdep ⟨11, .data⟩ (by simp) rfl
   have q26 := dd26.2 _ rfl _ rfl
   have h26 := hJ.vals 11 dd26.1 (fun c hc => by have hc : none = some c := hc; cases hc)
   rw [hT] at h26
   rw [show f 11 = .pointer (some ⟨ab, o + k1 * 42, none⟩) from h26] at q26
   clear h26
   clear dd26
   rw [Array.getD_eq_getD_getElem?] at q26
   clear hsz hdep hout hlat
   go_simp
   exact hK _ _ (hJ.plain HTY (by rw [hls]; decide) (Ex.refl _) (by rw [hT]; first | rfl | exact congrArg (Value.int .i64) (by omega) | exact congrArg (Value.int .i64) (by rw [IntKind.wrap_i64]; omega)) (no_head (by decide)))
  ·have ddg := hdep ⟨6, .guard⟩ (by simp) rfl
   have kg := ddg.2 _ rfl _ rfl
   have hg := hJ.vals 6 ddg.1 (fun c hc => by have hc : none = some c := hc; cases hc)
   rw [hT] at hg
   rw [show f 6 = .bool true from hg] at kg
   clear hg ddg
   rw [if_pos (wanted_of rfl rfl rfl kg)]
   clear kg
   intro K hK
   have q4 := hout 4 (outB_spec (by kernel_rfl))
   rw [Array.getD_eq_getD_getElem?] at q4
   clear hsz hdep hout hlat
   go_simp
   exact hK _ _ (hJ.plain HTY (by rw [hls]; decide) (Ex.refl _) (by rw [hT]; first | rfl | exact congrArg (Value.int .i64) (by omega) | exact congrArg (Value.int .i64) (by rw [IntKind.wrap_i64]; omega)) (no_head (by decide)))
  ·have ddg := hdep ⟨6, .guard⟩ (by simp) rfl
   have kg := ddg.2 _ rfl _ rfl
   have hg := hJ.vals 6 ddg.1 (fun c hc => by have hc : none = some c := hc; cases hc)
   rw [hT] at hg
   rw [show f 6 = .bool true from hg] at kg
   clear hg ddg
   rw [if_pos (wanted_of rfl rfl rfl kg)]
   clear kg
   intro K hK
   have dd28 := hdep ⟨13, .data⟩ (by simp) rfl
   have q28 := dd28.2 _ rfl _ rfl
   have h28 := hJ.vals 13 dd28.1 (fun c hc => by have hc : none = some c := hc; cases hc)
   rw [hT] at h28
   rw [show f 13 = .pointer (some ⟨g, 0, none⟩) from h28] at q28
   clear h28
   clear dd28
   rw [Array.getD_eq_getD_getElem?] at q28
   clear hsz hdep hout hlat
   go_simp
   exact hK _ _ (hJ.plain HTY (by rw [hls]; decide) (Ex.refl _) (by rw [hT]; first | rfl | exact congrArg (Value.int .i64) (by omega) | exact congrArg (Value.int .i64) (by rw [IntKind.wrap_i64]; omega)) (no_head (by decide)))
  ·have ddg := hdep ⟨6, .guard⟩ (by simp) rfl
   have kg := ddg.2 _ rfl _ rfl
   have hg := hJ.vals 6 ddg.1 (fun c hc => by have hc : none = some c := hc; cases hc)
   rw [hT] at hg
   rw [show f 6 = .bool true from hg] at kg
   clear hg ddg
   rw [if_pos (wanted_of rfl rfl rfl kg)]
   clear kg
   intro K hK
   have dd27 := hdep ⟨12, .data⟩ (by simp) rfl
   have q27 := dd27.2 _ rfl _ rfl
   have h27 := hJ.vals 12 dd27.1 (fun c hc => by have hc : none = some c := hc; cases hc)
   rw [hT] at h27
   rw [show f 12 = .slice (some ⟨ab, o + k1 * 42, none⟩) 4 4 from h27] at q27
   clear h27
   clear dd27
   have dd29 := hdep ⟨14, .data⟩ (by simp) rfl
   have q29 := dd29.2 _ rfl _ rfl
   have h29 := hJ.vals 14 dd29.1 (fun c hc => by have hc : none = some c := hc; cases hc)
   rw [hT] at h29
   rw [show f 14 = .slice (some ⟨g, 0, none⟩) 4 4 from h29] at q29
   clear h29
   clear dd29
   rw [Array.getD_eq_getD_getElem?] at q27 q29
   clear hsz hdep hout hlat
   go_simp
   have b1 := id_row (fun j u hu => (Below.cell (p := ⟨ab, o + k1 * 42 + j, none⟩) (Ex.trans XX.out hJ.ext.below) HAB.out).trans (YR.out j u hu)) YV.out.ok (Nat.lt_of_lt_of_le HAB2.out (Below.size hJ.ext.below))
   have b2 := id_row (HD.out.ext hJ.ext.below).2.range XV.out.ok (HD.out.ext hJ.ext.below).2.lt
   refine (bcmp4 ab g (o + k1 * 42) 0 y.id x.id YV.out.ok.idN XV.out.ok.idN w3 b1 b2).mono ?_
   rintro e w4 ⟨rfl, rfl⟩
   rw [HCV.out]
   exact hK _ _ (hJ.plain HTY (by rw [hls]; decide) (Ex.refl _) (by rw [hT]; rfl) (no_head (by decide)))
  ·have ddg := hdep ⟨6, .guard⟩ (by simp) rfl
   have kg := ddg.2 _ rfl _ rfl
   have hg := hJ.vals 6 ddg.1 (fun c hc => by have hc : none = some c := hc; cases hc)
   rw [hT] at hg
   rw [show f 6 = .bool true from hg] at kg
   clear hg ddg
   rw [if_pos (wanted_of rfl rfl rfl kg)]
   clear kg
   intro K hK
   have dd30 := hdep ⟨15, .data⟩ (by simp) rfl
   have q30 := dd30.2 _ rfl _ rfl
   have h30 := hJ.vals 15 dd30.1 (fun c hc => by have hc : none = some c := hc; cases hc)
   rw [hT] at h30
   rw [show f 15 = .int .i64 cv from h30] at q30
   clear h30
   clear dd30
   rw [Array.getD_eq_getD_getElem?] at q30
   clear hsz hdep hout hlat
   go_simp
   exact hK _ _ (hJ.plain HTY (by rw [hls]; decide) (Ex.refl _) (by rw [hT]; first | rfl | exact congrArg Value.bool (decide_eq_false (by omega)) | exact congrArg Value.bool (decide_eq_true (by omega))) (no_head (by decide)))
  ·have ddg := hdep ⟨3, .guard⟩ (by simp) rfl
   have kg := ddg.2 _ rfl _ rfl
   have hg := hJ.vals 3 ddg.1 (fun c hc => by have hc : none = some c := hc; cases hc)
   rw [hT] at hg
   rw [show f 3 = .bool false from hg] at kg
   clear hg ddg
   rw [if_pos (wanted_of rfl rfl rfl kg)]
   clear kg
   intro K hK
   have dd21 := hdep ⟨6, .data⟩ (by simp) rfl
   have q21 := dd21.2 _ rfl _ rfl
   have h21 := hJ.vals 6 dd21.1 (fun c hc => by have hc : none = some c := hc; cases hc)
   rw [hT] at h21
   rw [show f 6 = .bool true from h21] at q21
   clear h21
   clear dd21
   have dd31 := hdep ⟨16, .data⟩ (by simp) rfl
   have q31 := dd31.2 _ rfl _ rfl
   have h31 := hJ.vals 16 dd31.1 (fun c hc => by have hc : none = some c := hc; cases hc)
   rw [hT] at h31
   rw [show f 16 = .bool true from h31] at q31
   clear h31
   clear dd31
   rw [Array.getD_eq_getD_getElem?] at q21 q31
   clear hsz hdep hout hlat
   go_simp
   exact hK _ _ (hJ.plain HTY (by rw [hls]; decide) (Ex.refl _) (by rw [hT]; first | rfl | exact congrArg (Value.int .i64) (by omega) | exact congrArg (Value.int .i64) (by rw [IntKind.wrap_i64]; omega)) (no_head (by decide)))
  have dd18 := hdep ⟨3, .data⟩ (by simp) rfl
  have q18 := dd18.2 _ rfl _ rfl
  have h18 := hJ.vals 3 dd18.1 (fun c hc => by have hc : none = some c := hc; cases hc)
  rw [hT] at h18
  rw [show f 3 = .bool false from h18] at q18
  clear h18
  clear dd18
  have dd32 := hdep ⟨17, .data⟩ (by simp) rfl
  have q32 := dd32.2 _ rfl _ rfl
  have h32 := hJ.vals 17 dd32.1 (fun c hc => by have hc : none = some c := hc; cases hc)
  rw [hT] at h32
  rw [show f 17 = .bool true from h32] at q32
  clear h32
  clear dd32
  rw [Array.getD_eq_getD_getElem?] at q18 q32
  clear hsz hdep hout hlat
  go_simp
  exact hK _ _ (hJ.plain HTY (by rw [hls]; decide) (Ex.refl _) (by rw [hT]; first | rfl | exact congrArg (Value.int .i64) (by omega) | exact congrArg (Value.int .i64) (by rw [IntKind.wrap_i64]; omega)) (no_head (by decide)))
 intro listed f w3 hall hJ
 have f18 : f 18 = .bool true := by
  have h := hJ.vals 18 (hall 18 (by simp)) (fun c hc => by have hc : none = some c := hc; cases hc)
  rw [hT] at h; exact h
 have xk := hJ.ext
 simp only [putAll, Act.put, List.setIfInBounds_toArray, List.set_cons_zero, List.set_cons_succ, Nat.zero_add, Nat.reduceAdd]
 rw [f18]
 clear f18
 clear hJ hall hT HTY
 replace BW := Hi (Ex.trans BW.out (show Ex w2 w3 from xk.below))
 clear xk
 go_wp2_with fail
 go_ret
 exact ⟨false, rfl, ⟨(fun h => by cases h), fun hr => absurd hr (fun hr => by have h1 := hr.2.2 k1 (by rw [← HN.out]; omega); rw [HFY.out, HFX.out] at h1; exact HF.out h1)⟩, BW.out⟩
end Go.Proofs.Ytmjfnpmnhehnkaa
