/- Te -/
import Derived.Test.YtmjfnpmnhehnkaaXag
namespace Go.Proofs.Ytmjfnpmnhehnkaa
open Go.RowKit
theorem not_wanted_x {ops : Array Oper} {o oj : Oper} {a : Act} {j : Nat} {b : Bool} {t : Tmp} {x : Value} (hgd : o.guard = some (j, b)) (hj : ops[j]? = some oj) (ht : oj.dst = some t) (hv : a.tmps.getD t undef = x) (hne : x ≠ .bool b) : ¬ Region.wanted o (yielded ops a.tmps) = true := by
 rw [Array.getD_eq_getD_getElem?] at hv
 unfold Region.wanted yielded
 cases h : a.tmps[t]? with
 | none => simp [hgd, hj, ht, h]
 | some y =>
  rw [h] at hv
  obtain rfl : y = x := hv
  simp only [hgd, hj, ht, h, Option.bind]
  cases y <;> simp
  rename_i c
  intro e; exact hne (by rw [e])
theorem Vc.rsec {c : Vc} (h : c.right = true) : c.sec.length ≤ 64 := by
 unfold Vc.right at h
 rw [Bool.and_eq_true] at h
 obtain ⟨_, h⟩ := h
 split at h
 ·have h := of_decide_eq_true h
  rw [h]; exact Nat.zero_le _
 simp only [Bool.and_eq_true, decide_eq_true_eq] at h
 exact h.2
/-- vaults that may fill a table -/
def Rising (xs : List Vt) : Prop := xs.length ≤ 4 ∧ (∀ (i : Nat) (x : Vt), xs[i]? = some x → x.ct.right = true) ∧ ∀ i, i + 1 < xs.length → idF xs i < idF xs (i + 1)
theorem Rising.srt {xs : List Vt} (h : Rising xs) : ∀ i j, i < j → j < xs.length → idF xs i < idF xs j := by
 intro i j hij
 induction j with
 | zero => omega
 | succ j ih =>
  intro hj
  have h1 := h.2.2 j hj
  rcases Nat.eq_or_lt_of_le (Nat.le_of_lt_succ hij) with e | e
  ·rw [e]; exact h1
  ·exact Nat.lt_trans (ih e (by omega)) h1
theorem idF_ct {xs ys : List Vt} (h : ys.map Vt.ct = xs.map Vt.ct) (i : Nat) : idF ys i = idF xs i := by
 have e : (ys.map Vt.ct)[i]? = (xs.map Vt.ct)[i]? := by rw [h]
 rw [List.getElem?_map, List.getElem?_map] at e
 unfold idF
 rw [List.getD_eq_getElem?_getD, List.getD_eq_getElem?_getD]
 cases hy : ys[i]? <;> cases hx : xs[i]? <;> rw [hy, hx] at e <;> simp at e ⊢
 have := congrArg Vc.id e
 exact congrArg idn this
def FillPost (D : Nat) (rv : Value) (vs xs : List Vt) (w : World) (e : Ending) (w' : World) : Prop :=
 (Rising xs ∧ e = .returned (.int .i64 0) ∧ ∃ rv' ys, TB w' D rv' ys ∧ ys.map Vt.ct = xs.map Vt.ct ∧ (∀ g, rv'.ownBlock = some g → w.heap.size ≤ g) ∧ Kt [169] D w w') ∨
 (¬ Rising xs ∧ e = .returned (.int .i64 1) ∧ Ex w w')
/-- .. and of what there was the table's block alone is another one -/
def FillPost2 (D : Nat) (rv : Value) (vs xs : List Vt) (w : World) (e : Ending) (w' : World) : Prop := FillPost D rv vs xs w e w' ∧ Md D w w'
theorem slice_one {w : World} {B : Nat} {e : TypeId} {sz n : Nat} {v : Value} {xs : List Value} (h : w.ownsRow B e sz v n xs) : v.oneCell' = true := by
 obtain ⟨ad, cap, rfl, _⟩ := own_rd h
 rfl
set_option maxHeartbeats 4000000 in
set_option maxRecDepth 100000 in
theorem tfill_any2 (D : Nat) (rv : Value) (vs : List Vt) (ad : Option Addr) (cap : Nat) (xs : List Vt) (hcap : cap ≤ 9223372036854775807) (w : World) (h : TB w D rv vs) (hin : Vp.In ad cap xs w) (hvi : ∀ (i : Nat) (x : Vt), xs[i]? = some x → VI w x) : Calls Try.prog 61 #[.pointer (some ⟨D, 0, none⟩), .slice ad xs.length cap] w (FillPost2 D rv vs xs w) := by
 have HTB := Hi h
 have HIN := Hi hin
 have HVI := Hi hvi
 have HD0 := Hi h.blk.lt
 obtain ⟨n, hn⟩ : ∃ n, n = xs.length := ⟨_, rfl⟩
 have HN := Hi hn
 rw [← hn]
 have hnb : n ≤ 9223372036854775807 := by rw [hn]; exact Nat.le_trans hin.len hcap
 clear hn hin hvi h hcap
 by_cases h4 : n ≤ 4
 rotate_left
 ·have h4i : (4 : Int) < (n : Int) := by omega
  go_enter Try.func61, Try.ntmps61
  go_wp2_with fail
  go_ret
  exact ⟨Or.inr ⟨fun hr => h4 (by rw [HN.out]; exact hr.1), rfl, Ex.refl _⟩, Md.refl _ _⟩
 have h4i : ¬ (4 : Int) < (n : Int) := by omega
 go_enter Try.func61, Try.ntmps61
 go_wp2_with (first | ((with_reducible refine so4 [36, 1000+36, 32, 1000+32, 4000+36] ?_ ?_); (focus rfl)) | (with_reducible refine stop_bs (t := 37) ?_) | (with_reducible refine stop_app ?_))
 go_loopw [12] (fun i wr => ∃ k : Nat, k ≤ n ∧ i = .int .i64 k ∧ Hid (∀ j, j < k → ∃ x, xs[j]? = some x ∧ x.ct.right = true ∧ ∀ i, j = i + 1 → idF xs i < idF xs j) ∧ Hid (Ex w wr)) (fun i _ => n - (intOf i).toNat)
 case atStart => exact ⟨0, by omega, rfl, Hi (fun j hj => absurd hj (Nat.not_lt_zero j)), Hi (Ex.refl _)⟩
 obtain ⟨k, hk, rfl, HG, BW⟩ := hrel
 by_cases hlt : k < n
 rotate_left
 ·obtain rfl : k = n := by omega
  have q1 : ¬ (k : Int) < (k : Int) := by omega
  have HRI : Hid (Rising xs) := Hi ⟨by rw [← HN.out]; exact h4, fun i x hx => by
   have hi := (List.getElem?_eq_some_iff.1 hx).1
   obtain ⟨z, hz, h1, _⟩ := HG.out i (by rw [HN.out]; exact hi)
   rw [hx] at hz; cases hz; exact h1, fun i hi => by
   obtain ⟨z, hz, _, h1⟩ := HG.out (i + 1) (by rw [HN.out]; exact hi)
   exact h1 i rfl⟩
  go_wp2_with (first | ((with_reducible refine so4 [36, 1000+36, 32, 1000+32, 4000+36] ?_ ?_); (focus rfl)) | (with_reducible refine stop_bs (t := 37) ?_) | (with_reducible refine stop_app ?_))
  have CO := ownvs_any ad cap xs (by rw [← HN.out]; omega) wr (HIN.out.ext BW.out) (fun i x hx => ⟨(HVI.out i x hx).ext BW.out, Vc.rsec (HRI.out.2.1 i x hx)⟩)
  rw [← HN.out] at CO
  refine CO.mono ?_
  rintro e w3 ⟨v, ys, rfl, hvr, hct, x3⟩
  clear CO
  have HV := Hi hvr
  have HCT := Hi hct
  have HB0 := Hi ((HTB.out.ext BW.out).blk.ext x3)
  have BX := Hi (Ex.trans BW.out x3)
  have HWS := Hi BW.out.sz'
  clear hvr hct x3
  go_wp2_with (first | ((with_reducible refine so4 [1000+37, 36, 1000+36, 32, 1000+32, 4000+36] ?_ ?_); (focus rfl)) | (with_reducible refine stop_bs (t := 37) ?_) | (with_reducible refine stop_app ?_))
  refine at9 (by go_simp) fun K0 hK => wp_st1 (C := [rv]) _ _ D 0 v rfl rfl rfl HB0.out (by simp) (by kernel_rfl) (slice_one HV.out.row) (fun w4 hd ho => hK _ _ ?_)
  clear hK
  skip
  have k1 : Kt [169] D w w4 := Kt.trans (Ex.kt BX.out (Nat.le_of_lt HD0.out)) (Kt.md ho.md (Nat.le_refl D) HB0.out (List.mem_singleton.2 rfl))
  have hvr4 : VRow w4 wr.heap.size v ys := by
   have kt : Kt [169] D w3 w4 := Kt.md ho.md (Nat.le_refl D) HB0.out (List.mem_singleton.2 rfl)
   exact ⟨kt.row HV.out.row (by decide), fun i x hx => (HV.out.ins i x hx).kt kt (by decide)⟩
  have hlen : ys.length = xs.length := by have := congrArg List.length HCT.out; simpa using this
  have hres : FillPost2 D rv vs xs w (.returned (.int .i64 0)) w4 := ⟨Or.inl ⟨HRI.out, rfl, v, ys, ⟨hd, hvr4.less (Nat.le_trans HD0.out HWS.out), by rw [hlen]; exact HRI.out.1, fun i j hij hj => by rw [idF_ct HCT.out, idF_ct HCT.out]; exact HRI.out.srt i j hij (by rw [← hlen]; exact hj)⟩, HCT.out, fun g hg => Nat.le_trans HWS.out (HV.out.row.lt g hg).1, k1⟩, (Ex.md BX.out (Nat.le_of_lt HD0.out)).trans ho.md⟩
  have HRS := Hi hres
  clear hres hvr4 k1 hd ho hlen
  go_wp2_with fail
  go_ret
  exact HRS.out
 have q0 : (0 : Int) ≤ (k : Int) := by omega
 have q1 : (k : Int) < (n : Int) := by omega
 obtain ⟨x, hx⟩ : ∃ x, xs[k]? = some x := ⟨_, List.getElem?_eq_getElem (by rw [← HN.out]; omega)⟩
 obtain ⟨ab, o, rfl, hab2, hra⟩ := (HIN.out.ext BW.out).read (by rw [← HN.out]; omega)
 have XR := Hi (hra k x hx)
 have XV := Hi (HVI.out k x hx)
 have HXK := Hi hx
 have HRA := Hi hra
 have HAB := Hi hab2
 clear hra hab2 hx
 go_wp2_with (first | ((with_reducible refine so4 [36, 1000+36, 32, 1000+32, 4000+36] ?_ ?_); (focus rfl)) | (with_reducible refine stop_bs (t := 37) ?_) | (with_reducible refine stop_app ?_))
 refine at9 (by go_simp) fun K0 hK => ld_vr _ ab (o + k * 42) x XV.out.ok rfl rfl XR.out (hK _ _ ?_)
 clear hK
 go_wp2_with (first | ((with_reducible refine so4 [36, 1000+36, 32, 1000+32, 4000+36] ?_ ?_); (focus rfl)) | (with_reducible refine stop_bs (t := 37) ?_) | (with_reducible refine stop_app ?_))
 refine at9 (by go_simp) fun K0 hK => st_v _ _ wr.heap.size x rfl rfl rfl XV.out.ok (Bk.new rfl _ _) (by rfl) (fun w2 hd ho => hK _ _ ?_)
 clear hK
 have xx : Ex wr w2 := ho.below wr.heap.size (Nat.le_refl _) wr (Ex.alloc wr _)
 have HD := Hi hd
 have XX := Hi xx
 replace BW := Hi (Ex.trans BW.out xx)
 obtain ⟨g, hg⟩ : ∃ g, g = wr.heap.size := ⟨_, rfl⟩
 rw [← hg] at HD ⊢
 have HAB2 := Hi (Nat.lt_of_lt_of_le HAB.out xx.sz')
 clear xx hd ho hg XR
 obtain ⟨br, hbr⟩ : ∃ b, b = x.ct.right := ⟨_, rfl⟩
 have HBR := Hi hbr
 clear hbr
 cases br
 ·skip
  go_wp2_with fail
  obtain ⟨T, hT⟩ : ∃ T : List (Rw w2.heap.size), T = [.is (x.V), .is (.bool false), .is (.bool true), .is (.bool true), .is (undef), .is (undef), .is (undef), .is (undef), .is (undef), .is (undef), .is (undef), .is (undef), .is (undef), .is (undef), .is (undef), .is (undef), .is (undef), .is (.bool true)] := ⟨_, rfl⟩
  have HTY : T.map Rw.tys = ([[], [], [], [], [], [], [], [], [], [], [], [], [], [], [], [], [], []] : List (List Nat)) := by rw [hT]; rfl
  refine wp_region_gen (JW w2.heap.size w2 [0] T ([[], [], [], [], [], [], [], [], [], [], [], [], [], [], [], [], [], []] : List (List Nat)) ([none, none, none, none, none, none, none, none, none, none, none, none, none, none, none, none, none, none] : List (Option Nat)) ([] : List (Nat × Nat)) 100000) (by kernel_rfl) (by kernel_rfl) (by kernel_rfl) (fitB_spec (by kernel_rfl)) (fun listed f h => JW.start (Nat.le_refl _) listed f h) ?_ ?_
  ·intro i o ho
   have hi : i < 18 := (Array.getElem?_eq_some_iff.1 ho).1
   have hi' : i = 0 ∨ i = 1 ∨ i = 2 ∨ i = 3 ∨ i = 4 ∨ i = 5 ∨ i = 6 ∨ i = 7 ∨ i = 8 ∨ i = 9 ∨ i = 10 ∨ i = 11 ∨ i = 12 ∨ i = 13 ∨ i = 14 ∨ i = 15 ∨ i = 16 ∨ i = 17 := by omega
   clear hi
   rcases hi' with rfl | rfl | rfl | rfl | rfl | rfl | rfl | rfl | rfl | rfl | rfl | rfl | rfl | rfl | rfl | rfl | rfl | rfl
   all_goals (simp only [List.getElem?_toArray, List.getElem?_cons_zero, List.getElem?_cons_succ, Option.some.injEq] at ho; subst ho; intro listed f a w3 hJ hsz hls hun hdep hout hlat; first | (rw [if_pos (by rfl)]; intro K hK) | skip)
   ·have q6 := hout 6 (outB_spec (by kernel_rfl))
    exact ld_v (.tmp 6) g x rfl q6 (HD.out.ext hJ.ext.below) (hK _ _ (hJ.plain HTY (by rw [hls]; decide) (Ex.refl _) (by rw [hT]; rfl) (no_head (by decide))))
   ·have dd17 := hdep ⟨0, .data⟩ (by simp) rfl
    have q17 := dd17.2 _ rfl _ rfl
    have h17 := hJ.vals 0 dd17.1 no_c
    rw [hT] at h17
    rw [show f 0 = x.V from h17] at q17
    clear h17
    clear dd17
    rw [Array.getD_eq_getD_getElem?] at q17
    clear hsz hdep hout hlat
    go_simp
    refine (vright_any x w3 (XV.out.ext (Ex.trans BW.out hJ.ext.below))).mono ?_
    rintro e w4 ⟨rfl, x3⟩
    rw [← HBR.out]
    exact hK _ _ (hJ.plain HTY (by rw [hls]; decide) x3 (by rw [hT]; rfl) (no_head (by decide)))
   ·have dd18 := hdep ⟨1, .data⟩ (by simp) rfl
    have q18 := dd18.2 _ rfl _ rfl
    have h18 := hJ.vals 1 dd18.1 no_c
    rw [hT] at h18
    rw [show f 1 = .bool false from h18] at q18
    clear h18
    clear dd18
    rw [Array.getD_eq_getD_getElem?] at q18
    clear hsz hdep hout hlat
    go_simp
    exact hK _ _ (hJ.plain HTY (by rw [hls]; decide) (Ex.refl _) (by rw [hT]; rfl) (no_head (by decide)))
   ·have dd19 := hdep ⟨2, .data⟩ (by simp) rfl
    have q19 := dd19.2 _ rfl _ rfl
    have h19 := hJ.vals 2 dd19.1 no_c
    rw [hT] at h19
    rw [show f 2 = .bool true from h19] at q19
    clear h19
    clear dd19
    refine wp_mv _ rfl (hK _ _ ?_)
    rw [show a.eval (.tmp 19) = .bool true from q19]
    exact hJ.plain HTY (by rw [hls]; decide) (Ex.refl _) (by rw [hT]; rfl) (no_head (by decide))
   iterate 3
    focus
     have ddg := hdep ⟨3, .guard⟩ (by simp) rfl
     have kg := ddg.2 _ rfl _ rfl
     have hg := hJ.vals 3 ddg.1 no_c
     rw [hT] at hg
     rw [show f 3 = .bool true from hg] at kg
     clear hg ddg
     rw [if_neg (not_wanted rfl rfl rfl kg (by decide))]
     exact hJ.plain HTY (by rw [hls]; decide) (Ex.refl _) (by rw [hT]; first | exact trivial | rfl) (no_head (by decide))
   iterate 9
    focus
     have ddg := hdep ⟨6, .guard⟩ (by simp) rfl
     have kg := ddg.2 _ rfl _ rfl
     have hg := hJ.vals 6 ddg.1 no_c
     rw [hT] at hg
     rw [show f 6 = undef from hg] at kg
     clear hg ddg
     rw [if_neg (not_wanted_x rfl rfl rfl kg (by simp [undef]))]
     exact hJ.plain HTY (by rw [hls]; decide) (Ex.refl _) (by rw [hT]; first | exact trivial | rfl) (no_head (by decide))
   ·have ddg := hdep ⟨3, .guard⟩ (by simp) rfl
    have kg := ddg.2 _ rfl _ rfl
    have hg := hJ.vals 3 ddg.1 no_c
    rw [hT] at hg
    rw [show f 3 = .bool true from hg] at kg
    clear hg ddg
    rw [if_neg (not_wanted rfl rfl rfl kg (by decide))]
    exact hJ.plain HTY (by rw [hls]; decide) (Ex.refl _) (by rw [hT]; first | exact trivial | rfl) (no_head (by decide))
   have dd20 := hdep ⟨3, .data⟩ (by simp) rfl
   have q20 := dd20.2 _ rfl _ rfl
   have h20 := hJ.vals 3 dd20.1 no_c
   rw [hT] at h20
   rw [show f 3 = .bool true from h20] at q20
   clear h20
   clear dd20
   have dd33 := hdep ⟨16, .data⟩ (by simp) rfl
   have q33 := dd33.2 _ rfl _ rfl
   have h33 := hJ.vals 16 dd33.1 no_c
   rw [hT] at h33
   rw [show f 16 = undef from h33] at q33
   clear h33
   clear dd33
   rw [Array.getD_eq_getD_getElem?] at q20 q33
   clear hsz hdep hout hlat
   go_simp
   exact hK _ _ (hJ.plain HTY (by rw [hls]; decide) (Ex.refl _) (by rw [hT]; rfl) (no_head (by decide)))
  intro listed f w3 hall hJ
  have f17 : f 17 = .bool true := by
   have h := hJ.vals 17 (hall 17 (by simp)) no_c
   rw [hT] at h; exact h
  have xk := hJ.ext
  simp only [putAll, Act.put, List.setIfInBounds_toArray, List.set_cons_zero, List.set_cons_succ, Nat.zero_add, Nat.reduceAdd]
  rw [f17]
  clear f17
  clear hJ hall hT HTY
  replace BW := Hi (Ex.trans BW.out (show Ex w2 w3 from xk.below))
  clear xk
  go_wp2_with fail
  go_ret
  exact ⟨Or.inr ⟨(fun hr => by have h1 := hr.2.1 k x HXK.out; rw [← HBR.out] at h1; cases h1), rfl, BW.out⟩, Ex.md BW.out (Nat.le_of_lt HD0.out)⟩
 rcases k with _ | k1
 ·skip
  go_wp2_with fail
  obtain ⟨T, hT⟩ : ∃ T : List (Rw w2.heap.size), T = [.is (x.V), .is (.bool true), .is (.bool false), .is (.bool false), .is (.int .i64 (0 : Nat)), .is (.bool false), .is (.bool false), .is (undef), .is (undef), .is (undef), .is (undef), .is (undef), .is (undef), .is (undef), .is (undef), .is (undef), .is (.bool false), .is (.bool false)] := ⟨_, rfl⟩
  have HTY : T.map Rw.tys = ([[], [], [], [], [], [], [], [], [], [], [], [], [], [], [], [], [], []] : List (List Nat)) := by rw [hT]; rfl
  refine wp_region_gen (JW w2.heap.size w2 [0] T ([[], [], [], [], [], [], [], [], [], [], [], [], [], [], [], [], [], []] : List (List Nat)) ([none, none, none, none, none, none, none, none, none, none, none, none, none, none, none, none, none, none] : List (Option Nat)) ([] : List (Nat × Nat)) 100000) (by kernel_rfl) (by kernel_rfl) (by kernel_rfl) (fitB_spec (by kernel_rfl)) (fun listed f h => JW.start (Nat.le_refl _) listed f h) ?_ ?_
  ·intro i o ho
   have hi : i < 18 := (Array.getElem?_eq_some_iff.1 ho).1
   have hi' : i = 0 ∨ i = 1 ∨ i = 2 ∨ i = 3 ∨ i = 4 ∨ i = 5 ∨ i = 6 ∨ i = 7 ∨ i = 8 ∨ i = 9 ∨ i = 10 ∨ i = 11 ∨ i = 12 ∨ i = 13 ∨ i = 14 ∨ i = 15 ∨ i = 16 ∨ i = 17 := by omega
   clear hi
   rcases hi' with rfl | rfl | rfl | rfl | rfl | rfl | rfl | rfl | rfl | rfl | rfl | rfl | rfl | rfl | rfl | rfl | rfl | rfl
   all_goals (simp only [List.getElem?_toArray, List.getElem?_cons_zero, List.getElem?_cons_succ, Option.some.injEq] at ho; subst ho; intro listed f a w3 hJ hsz hls hun hdep hout hlat; first | (rw [if_pos (by rfl)]; intro K hK) | skip)
   ·have q6 := hout 6 (outB_spec (by kernel_rfl))
    exact ld_v (.tmp 6) g x rfl q6 (HD.out.ext hJ.ext.below) (hK _ _ (hJ.plain HTY (by rw [hls]; decide) (Ex.refl _) (by rw [hT]; rfl) (no_head (by decide))))
   ·have dd17 := hdep ⟨0, .data⟩ (by simp) rfl
    have q17 := dd17.2 _ rfl _ rfl
    have h17 := hJ.vals 0 dd17.1 no_c
    rw [hT] at h17
    rw [show f 0 = x.V from h17] at q17
    clear h17
    clear dd17
    rw [Array.getD_eq_getD_getElem?] at q17
    clear hsz hdep hout hlat
    go_simp
    refine (vright_any x w3 (XV.out.ext (Ex.trans BW.out hJ.ext.below))).mono ?_
    rintro e w4 ⟨rfl, x3⟩
    rw [← HBR.out]
    exact hK _ _ (hJ.plain HTY (by rw [hls]; decide) x3 (by rw [hT]; rfl) (no_head (by decide)))
   ·have dd18 := hdep ⟨1, .data⟩ (by simp) rfl
    have q18 := dd18.2 _ rfl _ rfl
    have h18 := hJ.vals 1 dd18.1 no_c
    rw [hT] at h18
    rw [show f 1 = .bool true from h18] at q18
    clear h18
    clear dd18
    rw [Array.getD_eq_getD_getElem?] at q18
    clear hsz hdep hout hlat
    go_simp
    exact hK _ _ (hJ.plain HTY (by rw [hls]; decide) (Ex.refl _) (by rw [hT]; rfl) (no_head (by decide)))
   ·have dd19 := hdep ⟨2, .data⟩ (by simp) rfl
    have q19 := dd19.2 _ rfl _ rfl
    have h19 := hJ.vals 2 dd19.1 no_c
    rw [hT] at h19
    rw [show f 2 = .bool false from h19] at q19
    clear h19
    clear dd19
    refine wp_mv _ rfl (hK _ _ ?_)
    rw [show a.eval (.tmp 19) = .bool false from q19]
    exact hJ.plain HTY (by rw [hls]; decide) (Ex.refl _) (by rw [hT]; rfl) (no_head (by decide))
   ·have ddg := hdep ⟨3, .guard⟩ (by simp) rfl
    have kg := ddg.2 _ rfl _ rfl
    have hg := hJ.vals 3 ddg.1 no_c
    rw [hT] at hg
    rw [show f 3 = .bool false from hg] at kg
    clear hg ddg
    rw [if_pos (wanted_of rfl rfl rfl kg)]
    clear kg
    intro K hK
    have q5 := hout 5 (outB_spec (by kernel_rfl))
    refine wp_mv _ rfl (hK _ _ ?_)
    rw [show a.eval (.tmp 5) = .int .i64 (0 : Nat) from q5]
    exact hJ.plain HTY (by rw [hls]; decide) (Ex.refl _) (by rw [hT]; rfl) (no_head (by decide))
   ·have ddg := hdep ⟨3, .guard⟩ (by simp) rfl
    have kg := ddg.2 _ rfl _ rfl
    have hg := hJ.vals 3 ddg.1 no_c
    rw [hT] at hg
    rw [show f 3 = .bool false from hg] at kg
    clear hg ddg
    rw [if_pos (wanted_of rfl rfl rfl kg)]
    clear kg
    intro K hK
    have dd21 := hdep ⟨4, .data⟩ (by simp) rfl
    have q21 := dd21.2 _ rfl _ rfl
    have h21 := hJ.vals 4 dd21.1 no_c
    rw [hT] at h21
    rw [show f 4 = .int .i64 (0 : Nat) from h21] at q21
    clear h21
    clear dd21
    rw [Array.getD_eq_getD_getElem?] at q21
    clear hsz hdep hout hlat
    go_simp
    exact hK _ _ (hJ.plain HTY (by rw [hls]; decide) (Ex.refl _) (by rw [hT]; rfl) (no_head (by decide)))
   ·have ddg := hdep ⟨3, .guard⟩ (by simp) rfl
    have kg := ddg.2 _ rfl _ rfl
    have hg := hJ.vals 3 ddg.1 no_c
    rw [hT] at hg
    rw [show f 3 = .bool false from hg] at kg
    clear hg ddg
    rw [if_pos (wanted_of rfl rfl rfl kg)]
    clear kg
    intro K hK
    have dd22 := hdep ⟨5, .data⟩ (by simp) rfl
    have q22 := dd22.2 _ rfl _ rfl
    have h22 := hJ.vals 5 dd22.1 no_c
    rw [hT] at h22
    rw [show f 5 = .bool false from h22] at q22
    clear h22
    clear dd22
    refine wp_mv _ rfl (hK _ _ ?_)
    rw [show a.eval (.tmp 22) = .bool false from q22]
    exact hJ.plain HTY (by rw [hls]; decide) (Ex.refl _) (by rw [hT]; rfl) (no_head (by decide))
   iterate 9
    focus
     have ddg := hdep ⟨6, .guard⟩ (by simp) rfl
     have kg := ddg.2 _ rfl _ rfl
     have hg := hJ.vals 6 ddg.1 no_c
     rw [hT] at hg
     rw [show f 6 = .bool false from hg] at kg
     clear hg ddg
     rw [if_neg (not_wanted rfl rfl rfl kg (by decide))]
     exact hJ.plain HTY (by rw [hls]; decide) (Ex.refl _) (by rw [hT]; first | exact trivial | rfl) (no_head (by decide))
   ·have ddg := hdep ⟨3, .guard⟩ (by simp) rfl
    have kg := ddg.2 _ rfl _ rfl
    have hg := hJ.vals 3 ddg.1 no_c
    rw [hT] at hg
    rw [show f 3 = .bool false from hg] at kg
    clear hg ddg
    rw [if_pos (wanted_of rfl rfl rfl kg)]
    clear kg
    intro K hK
    have dd23 := hdep ⟨6, .data⟩ (by simp) rfl
    have q23 := dd23.2 _ rfl _ rfl
    have h23 := hJ.vals 6 dd23.1 no_c
    rw [hT] at h23
    rw [show f 6 = .bool false from h23] at q23
    clear h23
    clear dd23
    have dd32 := hdep ⟨15, .data⟩ (by simp) rfl
    have q32 := dd32.2 _ rfl _ rfl
    have h32 := hJ.vals 15 dd32.1 no_c
    rw [hT] at h32
    rw [show f 15 = undef from h32] at q32
    clear h32
    clear dd32
    rw [Array.getD_eq_getD_getElem?] at q23 q32
    clear hsz hdep hout hlat
    go_simp
    exact hK _ _ (hJ.plain HTY (by rw [hls]; decide) (Ex.refl _) (by rw [hT]; rfl) (no_head (by decide)))
   have dd20 := hdep ⟨3, .data⟩ (by simp) rfl
   have q20 := dd20.2 _ rfl _ rfl
   have h20 := hJ.vals 3 dd20.1 no_c
   rw [hT] at h20
   rw [show f 3 = .bool false from h20] at q20
   clear h20
   clear dd20
   have dd33 := hdep ⟨16, .data⟩ (by simp) rfl
   have q33 := dd33.2 _ rfl _ rfl
   have h33 := hJ.vals 16 dd33.1 no_c
   rw [hT] at h33
   rw [show f 16 = .bool false from h33] at q33
   clear h33
   clear dd33
   rw [Array.getD_eq_getD_getElem?] at q20 q33
   clear hsz hdep hout hlat
   go_simp
   exact hK _ _ (hJ.plain HTY (by rw [hls]; decide) (Ex.refl _) (by rw [hT]; rfl) (no_head (by decide)))
  intro listed f w3 hall hJ
  have f17 : f 17 = .bool false := by
   have h := hJ.vals 17 (hall 17 (by simp)) no_c
   rw [hT] at h; exact h
  have xk := hJ.ext
  simp only [putAll, Act.put, List.setIfInBounds_toArray, List.set_cons_zero, List.set_cons_succ, Nat.zero_add, Nat.reduceAdd]
  rw [f17]
  clear f17
  clear hJ hall hT HTY
  replace BW := Hi (Ex.trans BW.out (show Ex w2 w3 from xk.below))
  clear xk
  go_wp2_with fail
  go_roundw
  case rel => exact ⟨1, by omega, by first | rfl | go_num, Hi (fun j hj => by
          obtain rfl : j = 0 := by omega
          exact ⟨x, HXK.out, HBR.out.symm, fun i hi => by omega⟩), BW⟩
  case measure => simp [intOf]; omega
 obtain ⟨y, hy⟩ : ∃ y, xs[k1]? = some y := ⟨_, List.getElem?_eq_getElem (by rw [← HN.out]; omega)⟩
 have k1i : (k1 : Int) < (n : Int) := by omega
 have k1z : (0 : Int) ≤ (k1 : Int) := by omega
 have YR := Hi (HRA.out k1 y hy)
 have YV := Hi (HVI.out k1 y hy)
 have HFY := Hi (idF_at xs k1 y hy)
 have HFX := Hi (idF_at xs (k1 + 1) x HXK.out)
 obtain ⟨cv, hcv⟩ : ∃ c, c = cmpN (idn y.id) (idn x.id) := ⟨_, rfl⟩
 have HCV := Hi hcv.symm
 by_cases hf : idn y.id < idn x.id
 ·have hc1 : ¬ (0 : Int) ≤ cv := by rw [hcv]; unfold cmpN; rw [if_pos hf]; decide
  have HF := Hi hf
  clear hcv hf hy
  go_wp2_with fail
  obtain ⟨T, hT⟩ : ∃ T : List (Rw w2.heap.size), T = [.is (x.V), .is (.bool true), .is (.bool false), .is (.bool false), .is (.int .i64 (k1 + 1 : Nat)), .is (.bool true), .is (.bool true), .is (.slice (some ⟨ab, o, none⟩) n cap), .is (.int .i64 (k1 + 1 : Nat)), .is (.int .i64 k1), .is (.pointer (some ⟨ab, o + k1 * 42, none⟩)), .is (y.V), .is (.pointer (some ⟨g, 0, none⟩)), .is (digV x.id), .is (.int .i64 cv), .is (.bool false), .is (.bool false), .is (.bool false)] := ⟨_, rfl⟩
  have HTY : T.map Rw.tys = ([[], [], [], [], [], [], [], [], [], [], [], [], [], [], [], [], [], []] : List (List Nat)) := by rw [hT]; rfl
  refine wp_region_gen (JW w2.heap.size w2 [0] T ([[], [], [], [], [], [], [], [], [], [], [], [], [], [], [], [], [], []] : List (List Nat)) ([none, none, none, none, none, none, none, none, none, none, none, none, none, none, none, none, none, none] : List (Option Nat)) ([] : List (Nat × Nat)) 100000) (by kernel_rfl) (by kernel_rfl) (by kernel_rfl) (fitB_spec (by kernel_rfl)) (fun listed f h => JW.start (Nat.le_refl _) listed f h) ?_ ?_
  ·intro i o ho
   have hi : i < 18 := (Array.getElem?_eq_some_iff.1 ho).1
   have hi' : i = 0 ∨ i = 1 ∨ i = 2 ∨ i = 3 ∨ i = 4 ∨ i = 5 ∨ i = 6 ∨ i = 7 ∨ i = 8 ∨ i = 9 ∨ i = 10 ∨ i = 11 ∨ i = 12 ∨ i = 13 ∨ i = 14 ∨ i = 15 ∨ i = 16 ∨ i = 17 := by omega
   clear hi
   rcases hi' with rfl | rfl | rfl | rfl | rfl | rfl | rfl | rfl | rfl | rfl | rfl | rfl | rfl | rfl | rfl | rfl | rfl | rfl
   all_goals (simp only [List.getElem?_toArray, List.getElem?_cons_zero, List.getElem?_cons_succ, Option.some.injEq] at ho; subst ho; intro listed f a w3 hJ hsz hls hun hdep hout hlat; first | (rw [if_pos (by rfl)]; intro K hK) | skip)
   ·have q6 := hout 6 (outB_spec (by kernel_rfl))
    exact ld_v (.tmp 6) g x rfl q6 (HD.out.ext hJ.ext.below) (hK _ _ (hJ.plain HTY (by rw [hls]; decide) (Ex.refl _) (by rw [hT]; rfl) (no_head (by decide))))
   ·have dd17 := hdep ⟨0, .data⟩ (by simp) rfl
    have q17 := dd17.2 _ rfl _ rfl
    have h17 := hJ.vals 0 dd17.1 no_c
    rw [hT] at h17
    rw [show f 0 = x.V from h17] at q17
    clear h17
    clear dd17
    rw [Array.getD_eq_getD_getElem?] at q17
    clear hsz hdep hout hlat
    go_simp
    refine (vright_any x w3 (XV.out.ext (Ex.trans BW.out hJ.ext.below))).mono ?_
    rintro e w4 ⟨rfl, x3⟩
    rw [← HBR.out]
    exact hK _ _ (hJ.plain HTY (by rw [hls]; decide) x3 (by rw [hT]; rfl) (no_head (by decide)))
   ·have dd18 := hdep ⟨1, .data⟩ (by simp) rfl
    have q18 := dd18.2 _ rfl _ rfl
    have h18 := hJ.vals 1 dd18.1 no_c
    rw [hT] at h18
    rw [show f 1 = .bool true from h18] at q18
    clear h18
    clear dd18
    rw [Array.getD_eq_getD_getElem?] at q18
    clear hsz hdep hout hlat
    go_simp
    exact hK _ _ (hJ.plain HTY (by rw [hls]; decide) (Ex.refl _) (by rw [hT]; rfl) (no_head (by decide)))
   ·have dd19 := hdep ⟨2, .data⟩ (by simp) rfl
    have q19 := dd19.2 _ rfl _ rfl
    have h19 := hJ.vals 2 dd19.1 no_c
    rw [hT] at h19
    rw [show f 2 = .bool false from h19] at q19
    clear h19
    clear dd19
    refine wp_mv _ rfl (hK _ _ ?_)
    rw [show a.eval (.tmp 19) = .bool false from q19]
    exact hJ.plain HTY (by rw [hls]; decide) (Ex.refl _) (by rw [hT]; rfl) (no_head (by decide))
   ·have ddg := hdep ⟨3, .guard⟩ (by simp) rfl
    have kg := ddg.2 _ rfl _ rfl
    have hg := hJ.vals 3 ddg.1 no_c
    rw [hT] at hg
    rw [show f 3 = .bool false from hg] at kg
    clear hg ddg
    rw [if_pos (wanted_of rfl rfl rfl kg)]
    clear kg
    intro K hK
    have q5 := hout 5 (outB_spec (by kernel_rfl))
    refine wp_mv _ rfl (hK _ _ ?_)
    rw [show a.eval (.tmp 5) = .int .i64 (k1 + 1 : Nat) from q5]
    exact hJ.plain HTY (by rw [hls]; decide) (Ex.refl _) (by rw [hT]; rfl) (no_head (by decide))
   ·have ddg := hdep ⟨3, .guard⟩ (by simp) rfl
    have kg := ddg.2 _ rfl _ rfl
    have hg := hJ.vals 3 ddg.1 no_c
    rw [hT] at hg
    rw [show f 3 = .bool false from hg] at kg
    clear hg ddg
    rw [if_pos (wanted_of rfl rfl rfl kg)]
    clear kg
    intro K hK
    have dd21 := hdep ⟨4, .data⟩ (by simp) rfl
    have q21 := dd21.2 _ rfl _ rfl
    have h21 := hJ.vals 4 dd21.1 no_c
    rw [hT] at h21
    rw [show f 4 = .int .i64 (k1 + 1 : Nat) from h21] at q21
    clear h21
    clear dd21
    rw [Array.getD_eq_getD_getElem?] at q21
    have qk : (0 : Int) < ((k1 + 1 : Nat) : Int) := by omega
    clear hsz hdep hout hlat
    go_simp
    exact hK _ _ (hJ.plain HTY (by rw [hls]; decide) (Ex.refl _) (by rw [hT]; rfl) (no_head (by decide)))
   ·have ddg := hdep ⟨3, .guard⟩ (by simp) rfl
    have kg := ddg.2 _ rfl _ rfl
    have hg := hJ.vals 3 ddg.1 no_c
    rw [hT] at hg
    rw [show f 3 = .bool false from hg] at kg
    clear hg ddg
    rw [if_pos (wanted_of rfl rfl rfl kg)]
    clear kg
    intro K hK
    have dd22 := hdep ⟨5, .data⟩ (by simp) rfl
    have q22 := dd22.2 _ rfl _ rfl
    have h22 := hJ.vals 5 dd22.1 no_c
    rw [hT] at h22
    rw [show f 5 = .bool true from h22] at q22
    clear h22
    clear dd22
    refine wp_mv _ rfl (hK _ _ ?_)
    rw [show a.eval (.tmp 22) = .bool true from q22]
    exact hJ.plain HTY (by rw [hls]; decide) (Ex.refl _) (by rw [hT]; rfl) (no_head (by decide))
   ·have ddg := hdep ⟨6, .guard⟩ (by simp) rfl
    have kg := ddg.2 _ rfl _ rfl
    have hg := hJ.vals 6 ddg.1 no_c
    rw [hT] at hg
    rw [show f 6 = .bool true from hg] at kg
    clear hg ddg
    rw [if_pos (wanted_of rfl rfl rfl kg)]
    clear kg
    intro K hK
    have q1 := hout 1 (outB_spec (by kernel_rfl))
    refine wp_mv _ rfl (hK _ _ ?_)
    rw [show a.eval (.tmp 1) = .slice (some ⟨ab, o, none⟩) n cap from q1]
    exact hJ.plain HTY (by rw [hls]; decide) (Ex.refl _) (by rw [hT]; rfl) (no_head (by decide))
   ·have ddg := hdep ⟨6, .guard⟩ (by simp) rfl
    have kg := ddg.2 _ rfl _ rfl
    have hg := hJ.vals 6 ddg.1 no_c
    rw [hT] at hg
    rw [show f 6 = .bool true from hg] at kg
    clear hg ddg
    rw [if_pos (wanted_of rfl rfl rfl kg)]
    clear kg
    intro K hK
    have q5 := hout 5 (outB_spec (by kernel_rfl))
    refine wp_mv _ rfl (hK _ _ ?_)
    rw [show a.eval (.tmp 5) = .int .i64 (k1 + 1 : Nat) from q5]
    exact hJ.plain HTY (by rw [hls]; decide) (Ex.refl _) (by rw [hT]; rfl) (no_head (by decide))
   ·have ddg := hdep ⟨6, .guard⟩ (by simp) rfl
    have kg := ddg.2 _ rfl _ rfl
    have hg := hJ.vals 6 ddg.1 no_c
    rw [hT] at hg
    rw [show f 6 = .bool true from hg] at kg
    clear hg ddg
    rw [if_pos (wanted_of rfl rfl rfl kg)]
    clear kg
    intro K hK
    have dd25 := hdep ⟨8, .data⟩ (by simp) rfl
    have q25 := dd25.2 _ rfl _ rfl
    have h25 := hJ.vals 8 dd25.1 no_c
    rw [hT] at h25
    rw [show f 8 = .int .i64 (k1 + 1 : Nat) from h25] at q25
    clear h25
    clear dd25
    rw [Array.getD_eq_getD_getElem?] at q25
    clear hsz hdep hout hlat
    go_simp
    exact hK _ _ (hJ.plain HTY (by rw [hls]; decide) (Ex.refl _) (by rw [hT]; first | rfl | exact int_eq (by omega) | exact int_eq (by rw [IntKind.wrap_i64]; omega)) (no_head (by decide)))
   ·have ddg := hdep ⟨6, .guard⟩ (by simp) rfl
    have kg := ddg.2 _ rfl _ rfl
    have hg := hJ.vals 6 ddg.1 no_c
    rw [hT] at hg
    rw [show f 6 = .bool true from hg] at kg
    clear hg ddg
    rw [if_pos (wanted_of rfl rfl rfl kg)]
    clear kg
    intro K hK
    have dd24 := hdep ⟨7, .data⟩ (by simp) rfl
    have q24 := dd24.2 _ rfl _ rfl
    have h24 := hJ.vals 7 dd24.1 no_c
    rw [hT] at h24
    rw [show f 7 = .slice (some ⟨ab, o, none⟩) n cap from h24] at q24
    clear h24
    clear dd24
    have dd26 := hdep ⟨9, .data⟩ (by simp) rfl
    have q26 := dd26.2 _ rfl _ rfl
    have h26 := hJ.vals 9 dd26.1 no_c
    rw [hT] at h26
    rw [show f 9 = .int .i64 k1 from h26] at q26
    clear h26
    clear dd26
    rw [Array.getD_eq_getD_getElem?] at q24 q26
    clear hsz hdep hout hlat
    go_simp
    exact hK _ _ (hJ.plain HTY (by rw [hls]; decide) (Ex.refl _) (by rw [hT]; rfl) (no_head (by decide)))
   ·have ddg := hdep ⟨6, .guard⟩ (by simp) rfl
    have kg := ddg.2 _ rfl _ rfl
    have hg := hJ.vals 6 ddg.1 no_c
    rw [hT] at hg
    rw [show f 6 = .bool true from hg] at kg
    clear hg ddg
    rw [if_pos (wanted_of rfl rfl rfl kg)]
    clear kg
    intro K hK
    have dd27 := hdep ⟨10, .data⟩ (by simp) rfl
    have q27 := dd27.2 _ rfl _ rfl
    have h27 := hJ.vals 10 dd27.1 no_c
    rw [hT] at h27
    rw [show f 10 = .pointer (some ⟨ab, o + k1 * 42, none⟩) from h27] at q27
    clear h27
    clear dd27
    exact ld_vr (.tmp 27) ab (o + k1 * 42) y YV.out.ok rfl q27 (fun j u hu => (Below.cell (p := ⟨ab, o + k1 * 42 + j, none⟩) (Ex.trans XX.out hJ.ext.below) HAB.out).trans (YR.out j u hu)) (hK _ _ (hJ.plain HTY (by rw [hls]; decide) (Ex.refl _) (by rw [hT]; rfl) (no_head (by decide))))
   ·have ddg := hdep ⟨6, .guard⟩ (by simp) rfl
    have kg := ddg.2 _ rfl _ rfl
    have hg := hJ.vals 6 ddg.1 no_c
    rw [hT] at hg
    rw [show f 6 = .bool true from hg] at kg
    clear hg ddg
    rw [if_pos (wanted_of rfl rfl rfl kg)]
    clear kg
    intro K hK
    have q6 := hout 6 (outB_spec (by kernel_rfl))
    rw [Array.getD_eq_getD_getElem?] at q6
    clear hsz hdep hout hlat
    go_simp
    exact hK _ _ (hJ.plain HTY (by rw [hls]; decide) (Ex.refl _) (by rw [hT]; rfl) (no_head (by decide)))
   ·have ddg := hdep ⟨6, .guard⟩ (by simp) rfl
    have kg := ddg.2 _ rfl _ rfl
    have hg := hJ.vals 6 ddg.1 no_c
    rw [hT] at hg
    rw [show f 6 = .bool true from hg] at kg
    clear hg ddg
    rw [if_pos (wanted_of rfl rfl rfl kg)]
    clear kg
    intro K hK
    have dd29 := hdep ⟨12, .data⟩ (by simp) rfl
    have q29 := dd29.2 _ rfl _ rfl
    have h29 := hJ.vals 12 dd29.1 no_c
    rw [hT] at h29
    rw [show f 12 = .pointer (some ⟨g, 0, none⟩) from h29] at q29
    clear h29
    clear dd29
    exact ld_vid (.tmp 29) g x rfl q29 (HD.out.ext hJ.ext.below) (hK _ _ (hJ.plain HTY (by rw [hls]; decide) (Ex.refl _) (by rw [hT]; rfl) (no_head (by decide))))
   ·have ddg := hdep ⟨6, .guard⟩ (by simp) rfl
    have kg := ddg.2 _ rfl _ rfl
    have hg := hJ.vals 6 ddg.1 no_c
    rw [hT] at hg
    rw [show f 6 = .bool true from hg] at kg
    clear hg ddg
    rw [if_pos (wanted_of rfl rfl rfl kg)]
    clear kg
    intro K hK
    have dd28 := hdep ⟨11, .data⟩ (by simp) rfl
    have q28 := dd28.2 _ rfl _ rfl
    have h28 := hJ.vals 11 dd28.1 no_c
    rw [hT] at h28
    rw [show f 11 = y.V from h28] at q28
    clear h28
    clear dd28
    have dd30 := hdep ⟨13, .data⟩ (by simp) rfl
    have q30 := dd30.2 _ rfl _ rfl
    have h30 := hJ.vals 13 dd30.1 no_c
    rw [hT] at h30
    rw [show f 13 = digV x.id from h30] at q30
    clear h30
    clear dd30
    rw [Array.getD_eq_getD_getElem?] at q28 q30
    clear hsz hdep hout hlat
    go_simp
    refine (tcmp_any y x.id w3 YV.out.ok XV.out.ok.idN).mono ?_
    rintro e w4 ⟨rfl, x3⟩
    rw [HCV.out]
    exact hK _ _ (hJ.plain HTY (by rw [hls]; decide) x3 (by rw [hT]; rfl) (no_head (by decide)))
   ·have ddg := hdep ⟨6, .guard⟩ (by simp) rfl
    have kg := ddg.2 _ rfl _ rfl
    have hg := hJ.vals 6 ddg.1 no_c
    rw [hT] at hg
    rw [show f 6 = .bool true from hg] at kg
    clear hg ddg
    rw [if_pos (wanted_of rfl rfl rfl kg)]
    clear kg
    intro K hK
    have dd31 := hdep ⟨14, .data⟩ (by simp) rfl
    have q31 := dd31.2 _ rfl _ rfl
    have h31 := hJ.vals 14 dd31.1 no_c
    rw [hT] at h31
    rw [show f 14 = .int .i64 cv from h31] at q31
    clear h31
    clear dd31
    rw [Array.getD_eq_getD_getElem?] at q31
    clear hsz hdep hout hlat
    go_simp
    exact hK _ _ (hJ.plain HTY (by rw [hls]; decide) (Ex.refl _) (by rw [hT]; first | rfl | exact congrArg Value.bool (decide_eq_false (by omega)) | exact congrArg Value.bool (decide_eq_true (by omega))) (no_head (by decide)))
   ·have ddg := hdep ⟨3, .guard⟩ (by simp) rfl
    have kg := ddg.2 _ rfl _ rfl
    have hg := hJ.vals 3 ddg.1 no_c
    rw [hT] at hg
    rw [show f 3 = .bool false from hg] at kg
    clear hg ddg
    rw [if_pos (wanted_of rfl rfl rfl kg)]
    clear kg
    intro K hK
    have dd23 := hdep ⟨6, .data⟩ (by simp) rfl
    have q23 := dd23.2 _ rfl _ rfl
    have h23 := hJ.vals 6 dd23.1 no_c
    rw [hT] at h23
    rw [show f 6 = .bool true from h23] at q23
    clear h23
    clear dd23
    have dd32 := hdep ⟨15, .data⟩ (by simp) rfl
    have q32 := dd32.2 _ rfl _ rfl
    have h32 := hJ.vals 15 dd32.1 no_c
    rw [hT] at h32
    rw [show f 15 = .bool false from h32] at q32
    clear h32
    clear dd32
    rw [Array.getD_eq_getD_getElem?] at q23 q32
    clear hsz hdep hout hlat
    go_simp
    exact hK _ _ (hJ.plain HTY (by rw [hls]; decide) (Ex.refl _) (by rw [hT]; rfl) (no_head (by decide)))
   have dd20 := hdep ⟨3, .data⟩ (by simp) rfl
   have q20 := dd20.2 _ rfl _ rfl
   have h20 := hJ.vals 3 dd20.1 no_c
   rw [hT] at h20
   rw [show f 3 = .bool false from h20] at q20
   clear h20
   clear dd20
   have dd33 := hdep ⟨16, .data⟩ (by simp) rfl
   have q33 := dd33.2 _ rfl _ rfl
   have h33 := hJ.vals 16 dd33.1 no_c
   rw [hT] at h33
   rw [show f 16 = .bool false from h33] at q33
   clear h33
   clear dd33
   rw [Array.getD_eq_getD_getElem?] at q20 q33
   clear hsz hdep hout hlat
   go_simp
   exact hK _ _ (hJ.plain HTY (by rw [hls]; decide) (Ex.refl _) (by rw [hT]; rfl) (no_head (by decide)))
  intro listed f w3 hall hJ
  have f17 : f 17 = .bool false := by
   have h := hJ.vals 17 (hall 17 (by simp)) no_c
   rw [hT] at h; exact h
  have xk := hJ.ext
  simp only [putAll, Act.put, List.setIfInBounds_toArray, List.set_cons_zero, List.set_cons_succ, Nat.zero_add, Nat.reduceAdd]
  rw [f17]
  clear f17
  clear hJ hall hT HTY
  replace BW := Hi (Ex.trans BW.out (show Ex w2 w3 from xk.below))
  clear xk
  go_wp2_with fail
  go_roundw
  case rel => exact ⟨k1 + 1 + 1, by omega, by go_num, Hi (fun j hj => by
           rcases Nat.lt_or_ge j (k1 + 1) with h | h
           ·exact HG.out j h
           ·obtain rfl : j = k1 + 1 := by omega
            exact ⟨x, HXK.out, HBR.out.symm, fun i hi => by
             obtain rfl : i = k1 := by omega
             rw [HFY.out, HFX.out]; exact HF.out⟩), BW⟩
  case measure => simp [intOf]; omega
 have hc1 : (0 : Int) ≤ cv := by rw [hcv]; unfold cmpN; rw [if_neg hf]; split <;> decide
 have HF := Hi hf
 clear hcv hf hy
 go_wp2_with fail
 obtain ⟨T, hT⟩ : ∃ T : List (Rw w2.heap.size), T = [.is (x.V), .is (.bool true), .is (.bool false), .is (.bool false), .is (.int .i64 (k1 + 1 : Nat)), .is (.bool true), .is (.bool true), .is (.slice (some ⟨ab, o, none⟩) n cap), .is (.int .i64 (k1 + 1 : Nat)), .is (.int .i64 k1), .is (.pointer (some ⟨ab, o + k1 * 42, none⟩)), .is (y.V), .is (.pointer (some ⟨g, 0, none⟩)), .is (digV x.id), .is (.int .i64 cv), .is (.bool true), .is (.bool true), .is (.bool true)] := ⟨_, rfl⟩
 have HTY : T.map Rw.tys = ([[], [], [], [], [], [], [], [], [], [], [], [], [], [], [], [], [], []] : List (List Nat)) := by rw [hT]; rfl
 refine wp_region_gen (JW w2.heap.size w2 [0] T ([[], [], [], [], [], [], [], [], [], [], [], [], [], [], [], [], [], []] : List (List Nat)) ([none, none, none, none, none, none, none, none, none, none, none, none, none, none, none, none, none, none] : List (Option Nat)) ([] : List (Nat × Nat)) 100000) (by kernel_rfl) (by kernel_rfl) (by kernel_rfl) (fitB_spec (by kernel_rfl)) (fun listed f h => JW.start (Nat.le_refl _) listed f h) ?_ ?_
 ·intro i o ho
  have hi : i < 18 := (Array.getElem?_eq_some_iff.1 ho).1
  have hi' : i = 0 ∨ i = 1 ∨ i = 2 ∨ i = 3 ∨ i = 4 ∨ i = 5 ∨ i = 6 ∨ i = 7 ∨ i = 8 ∨ i = 9 ∨ i = 10 ∨ i = 11 ∨ i = 12 ∨ i = 13 ∨ i = 14 ∨ i = 15 ∨ i = 16 ∨ i = 17 := by omega
  clear hi
  rcases hi' with rfl | rfl | rfl | rfl | rfl | rfl | rfl | rfl | rfl | rfl | rfl | rfl | rfl | rfl | rfl | rfl | rfl | rfl
  all_goals (simp only [List.getElem?_toArray, List.getElem?_cons_zero, List.getElem?_cons_succ, Option.some.injEq] at ho; subst ho; intro listed f a w3 hJ hsz hls hun hdep hout hlat; first | (rw [if_pos (by rfl)]; intro K hK) | skip)
  ·have q6 := hout 6 (outB_spec (by kernel_rfl))
   exact ld_v (.tmp 6) g x rfl q6 (HD.out.ext hJ.ext.below) (hK _ _ (hJ.plain HTY (by rw [hls]; decide) (Ex.refl _) (by rw [hT]; rfl) (no_head (by decide))))
  ·have dd17 := hdep ⟨0, .data⟩ (by simp) rfl
   have q17 := dd17.2 _ rfl _ rfl
   have h17 := hJ.vals 0 dd17.1 no_c
   rw [hT] at h17
   rw [show f 0 = x.V from h17] at q17
   clear h17
   clear dd17
   rw [Array.getD_eq_getD_getElem?] at q17
   clear hsz hdep hout hlat
   go_simp
   refine (vright_any x w3 (XV.out.ext (Ex.trans BW.out hJ.ext.below))).mono ?_
   rintro e w4 ⟨rfl, x3⟩
   rw [← HBR.out]
   exact hK _ _ (hJ.plain HTY (by rw [hls]; decide) x3 (by rw [hT]; rfl) (no_head (by decide)))
  ·have dd18 := hdep ⟨1, .data⟩ (by simp) rfl
   have q18 := dd18.2 _ rfl _ rfl
   have h18 := hJ.vals 1 dd18.1 no_c
   rw [hT] at h18
   rw [show f 1 = .bool true from h18] at q18
   clear h18
   clear dd18
   rw [Array.getD_eq_getD_getElem?] at q18
   clear hsz hdep hout hlat
   go_simp
   exact hK _ _ (hJ.plain HTY (by rw [hls]; decide) (Ex.refl _) (by rw [hT]; rfl) (no_head (by decide)))
  ·have dd19 := hdep ⟨2, .data⟩ (by simp) rfl
   have q19 := dd19.2 _ rfl _ rfl
   have h19 := hJ.vals 2 dd19.1 no_c
   rw [hT] at h19
   rw [show f 2 = .bool false from h19] at q19
   clear h19
   clear dd19
   refine wp_mv _ rfl (hK _ _ ?_)
   rw [show a.eval (.tmp 19) = .bool false from q19]
   exact hJ.plain HTY (by rw [hls]; decide) (Ex.refl _) (by rw [hT]; rfl) (no_head (by decide))
  ·have ddg := hdep ⟨3, .guard⟩ (by simp) rfl
   have kg := ddg.2 _ rfl _ rfl
   have hg := hJ.vals 3 ddg.1 no_c
   rw [hT] at hg
   rw [show f 3 = .bool false from hg] at kg
   clear hg ddg
   rw [if_pos (wanted_of rfl rfl rfl kg)]
   clear kg
   intro K hK
   have q5 := hout 5 (outB_spec (by kernel_rfl))
   refine wp_mv _ rfl (hK _ _ ?_)
   rw [show a.eval (.tmp 5) = .int .i64 (k1 + 1 : Nat) from q5]
   exact hJ.plain HTY (by rw [hls]; decide) (Ex.refl _) (by rw [hT]; rfl) (no_head (by decide))
  ·have ddg := hdep ⟨3, .guard⟩ (by simp) rfl
   have kg := ddg.2 _ rfl _ rfl
   have hg := hJ.vals 3 ddg.1 no_c
   rw [hT] at hg
   rw [show f 3 = .bool false from hg] at kg
   clear hg ddg
   rw [if_pos (wanted_of rfl rfl rfl kg)]
   clear kg
   intro K hK
   have dd21 := hdep ⟨4, .data⟩ (by simp) rfl
   have q21 := dd21.2 _ rfl _ rfl
   have h21 := hJ.vals 4 dd21.1 no_c
   rw [hT] at h21
   rw [show f 4 = .int .i64 (k1 + 1 : Nat) from h21] at q21
   clear h21
   clear dd21
   rw [Array.getD_eq_getD_getElem?] at q21
   have qk : (0 : Int) < ((k1 + 1 : Nat) : Int) := by omega
   clear hsz hdep hout hlat
   go_simp
   exact hK _ _ (hJ.plain HTY (by rw [hls]; decide) (Ex.refl _) (by rw [hT]; rfl) (no_head (by decide)))
  ·have ddg := hdep ⟨3, .guard⟩ (by simp) rfl
   have kg := ddg.2 _ rfl _ rfl
   have hg := hJ.vals 3 ddg.1 no_c
   rw [hT] at hg
   rw [show f 3 = .bool false from hg] at kg
   clear hg ddg
   rw [if_pos (wanted_of rfl rfl rfl kg)]
   clear kg
   intro K hK
   have dd22 := hdep ⟨5, .data⟩ (by simp) rfl
   have q22 := dd22.2 _ rfl _ rfl
   have h22 := hJ.vals 5 dd22.1 no_c
   rw [hT] at h22
   rw [show f 5 = .bool true from h22] at q22
   clear h22
   clear dd22
   refine wp_mv _ rfl (hK _ _ ?_)
   rw [show a.eval (.tmp 22) = .bool true from q22]
   exact hJ.plain HTY (by rw [hls]; decide) (Ex.refl _) (by rw [hT]; rfl) (no_head (by decide))
  ·have ddg := hdep ⟨6, .guard⟩ (by simp) rfl
   have kg := ddg.2 _ rfl _ rfl
   have hg := hJ.vals 6 ddg.1 no_c
   rw [hT] at hg
   rw [show f 6 = .bool true from hg] at kg
   clear hg ddg
   rw [if_pos (wanted_of rfl rfl rfl kg)]
   clear kg
   intro K hK
   have q1 := hout 1 (outB_spec (by kernel_rfl))
   refine wp_mv _ rfl (hK _ _ ?_)
   rw [show a.eval (.tmp 1) = .slice (some ⟨ab, o, none⟩) n cap from q1]
   exact hJ.plain HTY (by rw [hls]; decide) (Ex.refl _) (by rw [hT]; rfl) (no_head (by decide))
  ·have ddg := hdep ⟨6, .guard⟩ (by simp) rfl
   have kg := ddg.2 _ rfl _ rfl
   have hg := hJ.vals 6 ddg.1 no_c
   rw [hT] at hg
   rw [show f 6 = .bool true from hg] at kg
   clear hg ddg
   rw [if_pos (wanted_of rfl rfl rfl kg)]
   clear kg
   intro K hK
   have q5 := hout 5 (outB_spec (by kernel_rfl))
   refine wp_mv _ rfl (hK _ _ ?_)
   rw [show a.eval (.tmp 5) = .int .i64 (k1 + 1 : Nat) from q5]
   exact hJ.plain HTY (by rw [hls]; decide) (Ex.refl _) (by rw [hT]; rfl) (no_head (by decide))
  ·have ddg := hdep ⟨6, .guard⟩ (by simp) rfl
   have kg := ddg.2 _ rfl _ rfl
   have hg := hJ.vals 6 ddg.1 no_c
   rw [hT] at hg
   rw [show f 6 = .bool true from hg] at kg
   clear hg ddg
   rw [if_pos (wanted_of rfl rfl rfl kg)]
   clear kg
   intro K hK
   have dd25 := hdep ⟨8, .data⟩ (by simp) rfl
   have q25 := dd25.2 _ rfl _ rfl
   have h25 := hJ.vals 8 dd25.1 no_c
   rw [hT] at h25
   rw [show f 8 = .int .i64 (k1 + 1 : Nat) from h25] at q25
   clear h25
   clear dd25
   rw [Array.getD_eq_getD_getElem?] at q25
   clear hsz hdep hout hlat
   go_simp
   exact hK _ _ (hJ.plain HTY (by rw [hls]; decide) (Ex.refl _) (by rw [hT]; first | rfl | exact int_eq (by omega) | exact int_eq (by rw [IntKind.wrap_i64]; omega)) (no_head (by decide)))
  ·have ddg := hdep ⟨6, .guard⟩ (by simp) rfl
   have kg := ddg.2 _ rfl _ rfl
   have hg := hJ.vals 6 ddg.1 no_c
   rw [hT] at hg
   rw [show f 6 = .bool true from hg] at kg
   clear hg ddg
   rw [if_pos (wanted_of rfl rfl rfl kg)]
   clear kg
   intro K hK
   have dd24 := hdep ⟨7, .data⟩ (by simp) rfl
   have q24 := dd24.2 _ rfl _ rfl
   have h24 := hJ.vals 7 dd24.1 no_c
   rw [hT] at h24
   rw [show f 7 = .slice (some ⟨ab, o, none⟩) n cap from h24] at q24
   clear h24
   clear dd24
   have dd26 := hdep ⟨9, .data⟩ (by simp) rfl
   have q26 := dd26.2 _ rfl _ rfl
   have h26 := hJ.vals 9 dd26.1 no_c
   rw [hT] at h26
   rw [show f 9 = .int .i64 k1 from h26] at q26
   clear h26
   clear dd26
   rw [Array.getD_eq_getD_getElem?] at q24 q26
   clear hsz hdep hout hlat
   go_simp
   exact hK _ _ (hJ.plain HTY (by rw [hls]; decide) (Ex.refl _) (by rw [hT]; rfl) (no_head (by decide)))
  ·have ddg := hdep ⟨6, .guard⟩ (by simp) rfl
   have kg := ddg.2 _ rfl _ rfl
   have hg := hJ.vals 6 ddg.1 no_c
   rw [hT] at hg
   rw [show f 6 = .bool true from hg] at kg
   clear hg ddg
   rw [if_pos (wanted_of rfl rfl rfl kg)]
   clear kg
   intro K hK
   have dd27 := hdep ⟨10, .data⟩ (by simp) rfl
   have q27 := dd27.2 _ rfl _ rfl
   have h27 := hJ.vals 10 dd27.1 no_c
   rw [hT] at h27
   rw [show f 10 = .pointer (some ⟨ab, o + k1 * 42, none⟩) from h27] at q27
   clear h27
   clear dd27
   exact ld_vr (.tmp 27) ab (o + k1 * 42) y YV.out.ok rfl q27 (fun j u hu => (Below.cell (p := ⟨ab, o + k1 * 42 + j, none⟩) (Ex.trans XX.out hJ.ext.below) HAB.out).trans (YR.out j u hu)) (hK _ _ (hJ.plain HTY (by rw [hls]; decide) (Ex.refl _) (by rw [hT]; rfl) (no_head (by decide))))
  ·have ddg := hdep ⟨6, .guard⟩ (by simp) rfl
   have kg := ddg.2 _ rfl _ rfl
   have hg := hJ.vals 6 ddg.1 no_c
   rw [hT] at hg
   rw [show f 6 = .bool true from hg] at kg
   clear hg ddg
   rw [if_pos (wanted_of rfl rfl rfl kg)]
   clear kg
   intro K hK
   have q6 := hout 6 (outB_spec (by kernel_rfl))
   rw [Array.getD_eq_getD_getElem?] at q6
   clear hsz hdep hout hlat
   go_simp
   exact hK _ _ (hJ.plain HTY (by rw [hls]; decide) (Ex.refl _) (by rw [hT]; rfl) (no_head (by decide)))
  ·have ddg := hdep ⟨6, .guard⟩ (by simp) rfl
   have kg := ddg.2 _ rfl _ rfl
   have hg := hJ.vals 6 ddg.1 no_c
   rw [hT] at hg
   rw [show f 6 = .bool true from hg] at kg
   clear hg ddg
   rw [if_pos (wanted_of rfl rfl rfl kg)]
   clear kg
   intro K hK
   have dd29 := hdep ⟨12, .data⟩ (by simp) rfl
   have q29 := dd29.2 _ rfl _ rfl
   have h29 := hJ.vals 12 dd29.1 no_c
   rw [hT] at h29
   rw [show f 12 = .pointer (some ⟨g, 0, none⟩) from h29] at q29
   clear h29
   clear dd29
   exact ld_vid (.tmp 29) g x rfl q29 (HD.out.ext hJ.ext.below) (hK _ _ (hJ.plain HTY (by rw [hls]; decide) (Ex.refl _) (by rw [hT]; rfl) (no_head (by decide))))
  ·have ddg := hdep ⟨6, .guard⟩ (by simp) rfl
   have kg := ddg.2 _ rfl _ rfl
   have hg := hJ.vals 6 ddg.1 no_c
   rw [hT] at hg
   rw [show f 6 = .bool true from hg] at kg
   clear hg ddg
   rw [if_pos (wanted_of rfl rfl rfl kg)]
   clear kg
   intro K hK
   have dd28 := hdep ⟨11, .data⟩ (by simp) rfl
   have q28 := dd28.2 _ rfl _ rfl
   have h28 := hJ.vals 11 dd28.1 no_c
   rw [hT] at h28
   rw [show f 11 = y.V from h28] at q28
   clear h28
   clear dd28
   have dd30 := hdep ⟨13, .data⟩ (by simp) rfl
   have q30 := dd30.2 _ rfl _ rfl
   have h30 := hJ.vals 13 dd30.1 no_c
   rw [hT] at h30
   rw [show f 13 = digV x.id from h30] at q30
   clear h30
   clear dd30
   rw [Array.getD_eq_getD_getElem?] at q28 q30
   clear hsz hdep hout hlat
   go_simp
   refine (tcmp_any y x.id w3 YV.out.ok XV.out.ok.idN).mono ?_
   rintro e w4 ⟨rfl, x3⟩
   rw [HCV.out]
   exact hK _ _ (hJ.plain HTY (by rw [hls]; decide) x3 (by rw [hT]; rfl) (no_head (by decide)))
  ·have ddg := hdep ⟨6, .guard⟩ (by simp) rfl
   have kg := ddg.2 _ rfl _ rfl
   have hg := hJ.vals 6 ddg.1 no_c
   rw [hT] at hg
   rw [show f 6 = .bool true from hg] at kg
   clear hg ddg
   rw [if_pos (wanted_of rfl rfl rfl kg)]
   clear kg
   intro K hK
   have dd31 := hdep ⟨14, .data⟩ (by simp) rfl
   have q31 := dd31.2 _ rfl _ rfl
   have h31 := hJ.vals 14 dd31.1 no_c
   rw [hT] at h31
   rw [show f 14 = .int .i64 cv from h31] at q31
   clear h31
   clear dd31
   rw [Array.getD_eq_getD_getElem?] at q31
   clear hsz hdep hout hlat
   go_simp
   exact hK _ _ (hJ.plain HTY (by rw [hls]; decide) (Ex.refl _) (by rw [hT]; rfl) (no_head (by decide)))
  ·have ddg := hdep ⟨3, .guard⟩ (by simp) rfl
   have kg := ddg.2 _ rfl _ rfl
   have hg := hJ.vals 3 ddg.1 no_c
   rw [hT] at hg
   rw [show f 3 = .bool false from hg] at kg
   clear hg ddg
   rw [if_pos (wanted_of rfl rfl rfl kg)]
   clear kg
   intro K hK
   have dd23 := hdep ⟨6, .data⟩ (by simp) rfl
   have q23 := dd23.2 _ rfl _ rfl
   have h23 := hJ.vals 6 dd23.1 no_c
   rw [hT] at h23
   rw [show f 6 = .bool true from h23] at q23
   clear h23
   clear dd23
   have dd32 := hdep ⟨15, .data⟩ (by simp) rfl
   have q32 := dd32.2 _ rfl _ rfl
   have h32 := hJ.vals 15 dd32.1 no_c
   rw [hT] at h32
   rw [show f 15 = .bool true from h32] at q32
   clear h32
   clear dd32
   rw [Array.getD_eq_getD_getElem?] at q23 q32
   clear hsz hdep hout hlat
   go_simp
   exact hK _ _ (hJ.plain HTY (by rw [hls]; decide) (Ex.refl _) (by rw [hT]; rfl) (no_head (by decide)))
  have dd20 := hdep ⟨3, .data⟩ (by simp) rfl
  have q20 := dd20.2 _ rfl _ rfl
  have h20 := hJ.vals 3 dd20.1 no_c
  rw [hT] at h20
  rw [show f 3 = .bool false from h20] at q20
  clear h20
  clear dd20
  have dd33 := hdep ⟨16, .data⟩ (by simp) rfl
  have q33 := dd33.2 _ rfl _ rfl
  have h33 := hJ.vals 16 dd33.1 no_c
  rw [hT] at h33
  rw [show f 16 = .bool true from h33] at q33
  clear h33
  clear dd33
  rw [Array.getD_eq_getD_getElem?] at q20 q33
  clear hsz hdep hout hlat
  go_simp
  exact hK _ _ (hJ.plain HTY (by rw [hls]; decide) (Ex.refl _) (by rw [hT]; rfl) (no_head (by decide)))
 intro listed f w3 hall hJ
 have f17 : f 17 = .bool true := by
  have h := hJ.vals 17 (hall 17 (by simp)) no_c
  rw [hT] at h; exact h
 have xk := hJ.ext
 simp only [putAll, Act.put, List.setIfInBounds_toArray, List.set_cons_zero, List.set_cons_succ, Nat.zero_add, Nat.reduceAdd]
 rw [f17]
 clear f17
 clear hJ hall hT HTY
 replace BW := Hi (Ex.trans BW.out (show Ex w2 w3 from xk.below))
 clear xk
 go_wp2_with fail
 go_ret
 exact ⟨Or.inr ⟨(fun hr => by have h1 := hr.2.2 k1 (by rw [← HN.out]; omega); rw [HFY.out, HFX.out] at h1; exact HF.out h1), rfl, BW.out⟩, Ex.md BW.out (Nat.le_of_lt HD0.out)⟩
end Go.Proofs.Ytmjfnpmnhehnkaa
