/- Te, Tf -/
import Derived.Test.YtmjfnpmnhehnkaaQag
import Derived.Lib.Overlaps
import Derived.Laws.CopyRow
set_option maxRecDepth 100000
set_option maxHeartbeats 16000000
namespace Go.Proofs.Ytmjfnpmnhehnkaa
open Go.RowKit
theorem not_wanted_x {ops : Array Oper} {o oj : Oper} {a : Act} {j : Nat} {b : Bool} {t : Tmp} {x : Value} (hgd : o.guard = some (j, b)) (hj : ops[j]? = some oj) (ht : oj.dst = some t) (hv : a.tmps.getD t undef = x) (hne : x ≠ .bool b) : ¬ Region.wanted o (yielded ops a.tmps) = true := by
 rw [Array.getD_eq_getD_getElem?] at hv
 unfold Region.wanted yielded
 cases h : a.tmps[t]? with
 | none => simp [hgd, hj, ht, h]
 | some y =>
  rw [h] at hv
  obtain rfl : y = x := hv
  simp only [hgd, hj, ht, h, Option.bind]
  cases y <;> simp
  rename_i c
  intro e; exact hne (by rw [e])
theorem Vc.rsec {c : Vc} (h : c.right = true) : c.sec.length ≤ 64 := by
 unfold Vc.right at h
 rw [Bool.and_eq_true] at h
 obtain ⟨_, h⟩ := h
 split at h
 ·have h := of_decide_eq_true h
  rw [h]; exact Nat.zero_le _
 simp only [Bool.and_eq_true, decide_eq_true_eq] at h
 exact h.2
def Rising (xs : List Vt) : Prop := xs.length ≤ 4 ∧ (∀ (i : Nat) (x : Vt), xs[i]? = some x → x.ct.right = true) ∧ ∀ i, i + 1 < xs.length → idF xs i < idF xs (i + 1)
theorem Rising.srt {xs : List Vt} (h : Rising xs) : ∀ i j, i < j → j < xs.length → idF xs i < idF xs j := by
 intro i j hij
 induction j with
 | zero => omega
 | succ j ih =>
  intro hj
  have h1 := h.2.2 j hj
  rcases Nat.eq_or_lt_of_le (Nat.le_of_lt_succ hij) with e | e
  ·rw [e]; exact h1
  ·exact Nat.lt_trans (ih e (by omega)) h1
theorem idF_ct {xs ys : List Vt} (h : ys.map Vt.ct = xs.map Vt.ct) (i : Nat) : idF ys i = idF xs i := by
 have e : (ys.map Vt.ct)[i]? = (xs.map Vt.ct)[i]? := by rw [h]
 rw [List.getElem?_map, List.getElem?_map] at e
 unfold idF
 rw [List.getD_eq_getElem?_getD, List.getD_eq_getElem?_getD]
 cases hy : ys[i]? <;> cases hx : xs[i]? <;> rw [hy, hx] at e <;> simp at e ⊢
 have := congrArg Vc.id e
 exact congrArg idn this
def FillPost (D : Nat) (rv : Value) (vs xs : List Vt) (w : World) (e : Ending) (w' : World) : Prop :=
 (Rising xs ∧ e = .returned (.int .i64 0) ∧ ∃ rv' ys, TB w' D rv' ys ∧ ys.map Vt.ct = xs.map Vt.ct ∧ (∀ g, rv'.ownBlock = some g → w.heap.size ≤ g) ∧ Kt [169] D w w') ∨
 (¬ Rising xs ∧ e = .returned (.int .i64 1) ∧ Ex w w')
def FillPost2 (D : Nat) (rv : Value) (vs xs : List Vt) (w : World) (e : Ending) (w' : World) : Prop := FillPost D rv vs xs w e w' ∧ Md D w w'
theorem slice_one {w : World} {B : Nat} {e : TypeId} {sz n : Nat} {v : Value} {xs : List Value} (h : w.ownsRow B e sz v n xs) : v.oneCell' = true := by
 obtain ⟨ad, cap, rfl, _⟩ := own_rd h
 rfl
theorem tfill_any2 (D : Nat) (rv : Value) (vs : List Vt) (ad : Option Addr) (cap : Nat) (xs : List Vt) (hcap : cap ≤ 9223372036854775807) (w : World) (h : TB w D rv vs) (hin : Vp.In ad cap xs w) (hvi : ∀ (i : Nat) (x : Vt), xs[i]? = some x → VI w x) : Calls Try.prog 61 #[.pointer (some ⟨D, 0, none⟩), .slice ad xs.length cap] w (FillPost2 D rv vs xs w) := by
 have HTB := Hi h
 have HIN := Hi hin
 have HVI := Hi hvi
 have HD0 := Hi h.blk.lt
 obtain ⟨n, hn⟩ : ∃ n, n = xs.length := ⟨_, rfl⟩
 have HN := Hi hn
 rw [← hn]
 have hnb : n ≤ 9223372036854775807 := by rw [hn]; exact Nat.le_trans hin.len hcap
 clear hn hin hvi h hcap
 by_cases h4 : n ≤ 4
 rotate_left
 ·have h4i : (4 : Int) < (n : Int) := by omega
  go_enter Try.func61, Try.ntmps61
  go_wp2_with fail
  go_ret
  exact ⟨Or.inr ⟨fun hr => h4 (by rw [HN.out]; exact hr.1), rfl, Ex.refl _⟩, Md.refl _ _⟩
 have h4i : ¬ (4 : Int) < (n : Int) := by omega
 go_enter Try.func61, Try.ntmps61
 go_wp2_with (first | ((with_reducible refine so4 [36, 1000+36, 32, 1000+32, 4000+36] ?_ ?_); (focus rfl)) | (with_reducible refine stop_bs (t := 37) ?_) | (with_reducible refine stop_app ?_))
 go_loopw [12] (fun i wr => ∃ k : Nat, k ≤ n ∧ i = .int .i64 k ∧ Hid (∀ j, j < k → ∃ x, xs[j]? = some x ∧ x.ct.right = true ∧ ∀ i, j = i + 1 → idF xs i < idF xs j) ∧ Hid (Ex w wr)) (fun i _ => n - (intOf i).toNat)
 case atStart => exact ⟨0, by omega, rfl, Hi (fun j hj => absurd hj (Nat.not_lt_zero j)), Hi (Ex.refl _)⟩
 obtain ⟨k, hk, rfl, HG, BW⟩ := hrel
 by_cases hlt : k < n
 rotate_left
 ·obtain rfl : k = n := by omega
  have q1 : ¬ (k : Int) < (k : Int) := by omega
  have HRI : Hid (Rising xs) := Hi ⟨by rw [← HN.out]; exact h4, fun i x hx => by
   have hi := (List.getElem?_eq_some_iff.1 hx).1
   obtain ⟨z, hz, h1, _⟩ := HG.out i (by rw [HN.out]; exact hi)
   rw [hx] at hz; cases hz; exact h1, fun i hi => by
   obtain ⟨z, hz, _, h1⟩ := HG.out (i + 1) (by rw [HN.out]; exact hi)
   exact h1 i rfl⟩
  go_wp2_with (first | ((with_reducible refine so4 [36, 1000+36, 32, 1000+32, 4000+36] ?_ ?_); (focus rfl)) | (with_reducible refine stop_bs (t := 37) ?_) | (with_reducible refine stop_app ?_))
  have CO := ownvs_any ad cap xs (by rw [← HN.out]; omega) wr (HIN.out.ext BW.out) (fun i x hx => ⟨(HVI.out i x hx).ext BW.out, Vc.rsec (HRI.out.2.1 i x hx)⟩)
  rw [← HN.out] at CO
  refine CO.mono ?_
  rintro e w3 ⟨v, ys, rfl, hvr, hct, x3⟩
  clear CO
  have HV := Hi hvr
  have HCT := Hi hct
  have HB0 := Hi ((HTB.out.ext BW.out).blk.ext x3)
  have BX := Hi (Ex.trans BW.out x3)
  have HWS := Hi BW.out.sz'
  clear hvr hct x3
  go_wp2_with (first | ((with_reducible refine so4 [1000+37, 36, 1000+36, 32, 1000+32, 4000+36] ?_ ?_); (focus rfl)) | (with_reducible refine stop_bs (t := 37) ?_) | (with_reducible refine stop_app ?_))
  refine at9 (by go_simp) fun K0 hK => wp_st1 (C := [rv]) _ _ D 0 v rfl rfl rfl HB0.out (by simp) (by kernel_rfl) (slice_one HV.out.row) (fun w4 hd ho => hK _ _ ?_)
  clear hK
  skip
  have k1 : Kt [169] D w w4 := Kt.trans (Ex.kt BX.out (Nat.le_of_lt HD0.out)) (Kt.md ho.md (Nat.le_refl D) HB0.out (List.mem_singleton.2 rfl))
  have hvr4 : VRow w4 wr.heap.size v ys := by
   have kt : Kt [169] D w3 w4 := Kt.md ho.md (Nat.le_refl D) HB0.out (List.mem_singleton.2 rfl)
   exact ⟨kt.row HV.out.row (by decide), fun i x hx => (HV.out.ins i x hx).kt kt (by decide)⟩
  have hlen : ys.length = xs.length := by have := congrArg List.length HCT.out; simpa using this
  have hres : FillPost2 D rv vs xs w (.returned (.int .i64 0)) w4 := ⟨Or.inl ⟨HRI.out, rfl, v, ys, ⟨hd, hvr4.less (Nat.le_trans HD0.out HWS.out), by rw [hlen]; exact HRI.out.1, fun i j hij hj => by rw [idF_ct HCT.out, idF_ct HCT.out]; exact HRI.out.srt i j hij (by rw [← hlen]; exact hj)⟩, HCT.out, fun g hg => Nat.le_trans HWS.out (HV.out.row.lt g hg).1, k1⟩, (Ex.md BX.out (Nat.le_of_lt HD0.out)).trans ho.md⟩
  have HRS := Hi hres
  clear hres hvr4 k1 hd ho hlen
  go_wp2_with fail
  go_ret
  exact HRS.out
 have q0 : (0 : Int) ≤ (k : Int) := by omega
 have q1 : (k : Int) < (n : Int) := by omega
 obtain ⟨x, hx⟩ : ∃ x, xs[k]? = some x := ⟨_, List.getElem?_eq_getElem (by rw [← HN.out]; omega)⟩
 obtain ⟨ab, o, rfl, hab2, hra⟩ := (HIN.out.ext BW.out).read (by rw [← HN.out]; omega)
 have XR := Hi (hra k x hx)
 have XV := Hi (HVI.out k x hx)
 have HXK := Hi hx
 have HRA := Hi hra
 have HAB := Hi hab2
 clear hra hab2 hx
 go_wp2_with (first | ((with_reducible refine so4 [36, 1000+36, 32, 1000+32, 4000+36] ?_ ?_); (focus rfl)) | (with_reducible refine stop_bs (t := 37) ?_) | (with_reducible refine stop_app ?_))
 refine at9 (by go_simp) fun K0 hK => ld_vr _ ab (o + k * 42) x XV.out.ok rfl rfl XR.out (hK _ _ ?_)
 clear hK
 go_wp2_with (first | ((with_reducible refine so4 [36, 1000+36, 32, 1000+32, 4000+36] ?_ ?_); (focus rfl)) | (with_reducible refine stop_bs (t := 37) ?_) | (with_reducible refine stop_app ?_))
 refine at9 (by go_simp) fun K0 hK => st_v _ _ wr.heap.size x rfl rfl rfl XV.out.ok (Bk.new rfl _ _) (by rfl) (fun w2 hd ho => hK _ _ ?_)
 clear hK
 have xx : Ex wr w2 := ho.below wr.heap.size (Nat.le_refl _) wr (Ex.alloc wr _)
 have HD := Hi hd
 have XX := Hi xx
 replace BW := Hi (Ex.trans BW.out xx)
 obtain ⟨g, hg⟩ : ∃ g, g = wr.heap.size := ⟨_, rfl⟩
 rw [← hg] at HD ⊢
 have HAB2 := Hi (Nat.lt_of_lt_of_le HAB.out xx.sz')
 clear xx hd ho hg XR
 obtain ⟨br, hbr⟩ : ∃ b, b = x.ct.right := ⟨_, rfl⟩
 have HBR := Hi hbr
 clear hbr
 cases br
 ·skip
  go_wp2_with fail
  obtain ⟨T, hT⟩ : ∃ T : List (Rw w2.heap.size), T = [.is (x.V), .is (.bool false), .is (.bool true), .is (.bool true), .is (undef), .is (undef), .is (undef), .is (undef), .is (undef), .is (undef), .is (undef), .is (undef), .is (undef), .is (undef), .is (undef), .is (undef), .is (undef), .is (.bool true)] := ⟨_, rfl⟩
  have HTY : T.map Rw.tys = ([[], [], [], [], [], [], [], [], [], [], [], [], [], [], [], [], [], []] : List (List Nat)) := by rw [hT]; rfl
  refine wp_region_gen (JW w2.heap.size w2 [0] T ([[], [], [], [], [], [], [], [], [], [], [], [], [], [], [], [], [], []] : List (List Nat)) ([none, none, none, none, none, none, none, none, none, none, none, none, none, none, none, none, none, none] : List (Option Nat)) ([] : List (Nat × Nat)) 100000) (by kernel_rfl) (by kernel_rfl) (by kernel_rfl) (fitB_spec (by kernel_rfl)) (fun listed f h => JW.start (Nat.le_refl _) listed f h) ?_ ?_
  ·intro i o ho
   have hi : i < 18 := (Array.getElem?_eq_some_iff.1 ho).1
   have hi' : i = 0 ∨ i = 1 ∨ i = 2 ∨ i = 3 ∨ i = 4 ∨ i = 5 ∨ i = 6 ∨ i = 7 ∨ i = 8 ∨ i = 9 ∨ i = 10 ∨ i = 11 ∨ i = 12 ∨ i = 13 ∨ i = 14 ∨ i = 15 ∨ i = 16 ∨ i = 17 := by omega
   clear hi
   rcases hi' with rfl | rfl | rfl | rfl | rfl | rfl | rfl | rfl | rfl | rfl | rfl | rfl | rfl | rfl | rfl | rfl | rfl | rfl
   all_goals (simp only [List.getElem?_toArray, List.getElem?_cons_zero, List.getElem?_cons_succ, Option.some.injEq] at ho; subst ho; intro listed f a w3 hJ hsz hls hun hdep hout hlat; first | (rw [if_pos (by rfl)]; intro K hK) | skip)
   ·have q6 := hout 6 ob
    exact ld_v (.tmp 6) g x rfl q6 (HD.out.ext hJ.ext.below) (hK _ _ (hJ.pl HTY hls hT rfl))
   ·have q17 := hJ.iv hT (hdep ⟨0, .data⟩ (by simp) rfl) rfl rfl _ rfl _ rfl
    clear hsz hdep hout hlat
    go_simp
    refine (vright_any x w3 (XV.out.ext (Ex.trans BW.out hJ.ext.below))).mono ?_
    rintro e w4 ⟨rfl, x3⟩
    rw [← HBR.out]
    exact hK _ _ (hJ.plain HTY (by rw [hls]; decide) x3 (by rw [hT]; rfl) nh)
   ·have q18 := hJ.iv hT (hdep ⟨1, .data⟩ (by simp) rfl) rfl rfl _ rfl _ rfl
    clear hsz hdep hout hlat
    go_simp
    exact hK _ _ (hJ.pl HTY hls hT rfl)
   ·have q19 := hJ.iw hT (hdep ⟨2, .data⟩ (by simp) rfl) rfl rfl _ rfl _ rfl
    exact wp_mw _ rfl q19 (hK _ _ (hJ.pl HTY hls hT rfl))
   iterate 3
    focus
     have kg := hJ.iw hT (hdep ⟨3, .guard⟩ (by simp) rfl) rfl rfl _ rfl _ rfl
     rw [if_neg (not_wanted rfl rfl rfl kg (by decide))]
     exact hJ.pl HTY hls hT (by first | exact trivial | rfl)
   iterate 9
    focus
     have kg := hJ.iw hT (hdep ⟨6, .guard⟩ (by simp) rfl) rfl rfl _ rfl _ rfl
     rw [if_neg (not_wanted_x rfl rfl rfl kg (by simp [undef]))]
     exact hJ.pl HTY hls hT (by first | exact trivial | rfl)
   ·have kg := hJ.iw hT (hdep ⟨3, .guard⟩ (by simp) rfl) rfl rfl _ rfl _ rfl
    rw [if_neg (not_wanted rfl rfl rfl kg (by decide))]
    exact hJ.pl HTY hls hT (by first | exact trivial | rfl)
   have q20 := hJ.iv hT (hdep ⟨3, .data⟩ (by simp) rfl) rfl rfl _ rfl _ rfl
   have q33 := hJ.iv hT (hdep ⟨16, .data⟩ (by simp) rfl) rfl rfl _ rfl _ rfl
   clear hsz hdep hout hlat
   go_simp
   exact hK _ _ (hJ.pl HTY hls hT rfl)
  intro listed f w3 hall hJ
  have f17 : f 17 = .bool true := by
   have h := hJ.vals 17 (hall 17 (by simp)) no_c
   rw [hT] at h; exact h
  have xk := hJ.ext
  simp only [putAll, Act.put, List.setIfInBounds_toArray, List.set_cons_zero, List.set_cons_succ, Nat.zero_add, Nat.reduceAdd]
  rw [f17]
  clear f17
  clear hJ hall hT HTY
  replace BW := Hi (Ex.trans BW.out (show Ex w2 w3 from xk.below))
  clear xk
  go_wp2_with fail
  go_ret
  exact ⟨Or.inr ⟨(fun hr => by have h1 := hr.2.1 k x HXK.out; rw [← HBR.out] at h1; cases h1), rfl, BW.out⟩, Ex.md BW.out (Nat.le_of_lt HD0.out)⟩
 rcases k with _ | k1
 ·skip
  go_wp2_with fail
  obtain ⟨T, hT⟩ : ∃ T : List (Rw w2.heap.size), T = [.is (x.V), .is (.bool true), .is (.bool false), .is (.bool false), .is (.int .i64 (0 : Nat)), .is (.bool false), .is (.bool false), .is (undef), .is (undef), .is (undef), .is (undef), .is (undef), .is (undef), .is (undef), .is (undef), .is (undef), .is (.bool false), .is (.bool false)] := ⟨_, rfl⟩
  have HTY : T.map Rw.tys = ([[], [], [], [], [], [], [], [], [], [], [], [], [], [], [], [], [], []] : List (List Nat)) := by rw [hT]; rfl
  refine wp_region_gen (JW w2.heap.size w2 [0] T ([[], [], [], [], [], [], [], [], [], [], [], [], [], [], [], [], [], []] : List (List Nat)) ([none, none, none, none, none, none, none, none, none, none, none, none, none, none, none, none, none, none] : List (Option Nat)) ([] : List (Nat × Nat)) 100000) (by kernel_rfl) (by kernel_rfl) (by kernel_rfl) (fitB_spec (by kernel_rfl)) (fun listed f h => JW.start (Nat.le_refl _) listed f h) ?_ ?_
  ·intro i o ho
   have hi : i < 18 := (Array.getElem?_eq_some_iff.1 ho).1
   have hi' : i = 0 ∨ i = 1 ∨ i = 2 ∨ i = 3 ∨ i = 4 ∨ i = 5 ∨ i = 6 ∨ i = 7 ∨ i = 8 ∨ i = 9 ∨ i = 10 ∨ i = 11 ∨ i = 12 ∨ i = 13 ∨ i = 14 ∨ i = 15 ∨ i = 16 ∨ i = 17 := by omega
   clear hi
   rcases hi' with rfl | rfl | rfl | rfl | rfl | rfl | rfl | rfl | rfl | rfl | rfl | rfl | rfl | rfl | rfl | rfl | rfl | rfl
   all_goals (simp only [List.getElem?_toArray, List.getElem?_cons_zero, List.getElem?_cons_succ, Option.some.injEq] at ho; subst ho; intro listed f a w3 hJ hsz hls hun hdep hout hlat; first | (rw [if_pos (by rfl)]; intro K hK) | skip)
   ·have q6 := hout 6 ob
    exact ld_v (.tmp 6) g x rfl q6 (HD.out.ext hJ.ext.below) (hK _ _ (hJ.pl HTY hls hT rfl))
   ·have q17 := hJ.iv hT (hdep ⟨0, .data⟩ (by simp) rfl) rfl rfl _ rfl _ rfl
    clear hsz hdep hout hlat
    go_simp
    refine (vright_any x w3 (XV.out.ext (Ex.trans BW.out hJ.ext.below))).mono ?_
    rintro e w4 ⟨rfl, x3⟩
    rw [← HBR.out]
    exact hK _ _ (hJ.plain HTY (by rw [hls]; decide) x3 (by rw [hT]; rfl) nh)
   ·have q18 := hJ.iv hT (hdep ⟨1, .data⟩ (by simp) rfl) rfl rfl _ rfl _ rfl
    clear hsz hdep hout hlat
    go_simp
    exact hK _ _ (hJ.pl HTY hls hT rfl)
   ·have q19 := hJ.iw hT (hdep ⟨2, .data⟩ (by simp) rfl) rfl rfl _ rfl _ rfl
    exact wp_mw _ rfl q19 (hK _ _ (hJ.pl HTY hls hT rfl))
   ·have kg := hJ.iw hT (hdep ⟨3, .guard⟩ (by simp) rfl) rfl rfl _ rfl _ rfl
    rw [if_pos (wanted_of rfl rfl rfl kg)]
    clear kg
    intro K hK
    have q5 := hout 5 ob
    exact wp_mw _ rfl q5 (hK _ _ (hJ.pl HTY hls hT rfl))
   ·have kg := hJ.iw hT (hdep ⟨3, .guard⟩ (by simp) rfl) rfl rfl _ rfl _ rfl
    rw [if_pos (wanted_of rfl rfl rfl kg)]
    clear kg
    intro K hK
    have q21 := hJ.iv hT (hdep ⟨4, .data⟩ (by simp) rfl) rfl rfl _ rfl _ rfl
    clear hsz hdep hout hlat
    go_simp
    exact hK _ _ (hJ.pl HTY hls hT rfl)
   ·have kg := hJ.iw hT (hdep ⟨3, .guard⟩ (by simp) rfl) rfl rfl _ rfl _ rfl
    rw [if_pos (wanted_of rfl rfl rfl kg)]
    clear kg
    intro K hK
    have q22 := hJ.iw hT (hdep ⟨5, .data⟩ (by simp) rfl) rfl rfl _ rfl _ rfl
    exact wp_mw _ rfl q22 (hK _ _ (hJ.pl HTY hls hT rfl))
   iterate 9
    focus
     have kg := hJ.iw hT (hdep ⟨6, .guard⟩ (by simp) rfl) rfl rfl _ rfl _ rfl
     rw [if_neg (not_wanted rfl rfl rfl kg (by decide))]
     exact hJ.pl HTY hls hT (by first | exact trivial | rfl)
   ·have kg := hJ.iw hT (hdep ⟨3, .guard⟩ (by simp) rfl) rfl rfl _ rfl _ rfl
    rw [if_pos (wanted_of rfl rfl rfl kg)]
    clear kg
    intro K hK
    have q23 := hJ.iv hT (hdep ⟨6, .data⟩ (by simp) rfl) rfl rfl _ rfl _ rfl
    have q32 := hJ.iv hT (hdep ⟨15, .data⟩ (by simp) rfl) rfl rfl _ rfl _ rfl
    clear hsz hdep hout hlat
    go_simp
    exact hK _ _ (hJ.pl HTY hls hT rfl)
   have q20 := hJ.iv hT (hdep ⟨3, .data⟩ (by simp) rfl) rfl rfl _ rfl _ rfl
   have q33 := hJ.iv hT (hdep ⟨16, .data⟩ (by simp) rfl) rfl rfl _ rfl _ rfl
   clear hsz hdep hout hlat
   go_simp
   exact hK _ _ (hJ.pl HTY hls hT rfl)
  intro listed f w3 hall hJ
  have f17 : f 17 = .bool false := by
   have h := hJ.vals 17 (hall 17 (by simp)) no_c
   rw [hT] at h; exact h
  have xk := hJ.ext
  simp only [putAll, Act.put, List.setIfInBounds_toArray, List.set_cons_zero, List.set_cons_succ, Nat.zero_add, Nat.reduceAdd]
  rw [f17]
  clear f17
  clear hJ hall hT HTY
  replace BW := Hi (Ex.trans BW.out (show Ex w2 w3 from xk.below))
  clear xk
  go_wp2_with fail
  go_roundw
  case rel => exact ⟨1, by omega, by first | rfl | go_num, Hi (fun j hj => by
          obtain rfl : j = 0 := by omega
          exact ⟨x, HXK.out, HBR.out.symm, fun i hi => by omega⟩), BW⟩
  case measure => simp [intOf]; omega
 obtain ⟨y, hy⟩ : ∃ y, xs[k1]? = some y := ⟨_, List.getElem?_eq_getElem (by rw [← HN.out]; omega)⟩
 have k1i : (k1 : Int) < (n : Int) := by omega
 have k1z : (0 : Int) ≤ (k1 : Int) := by omega
 have YR := Hi (HRA.out k1 y hy)
 have YV := Hi (HVI.out k1 y hy)
 have HFY := Hi (idF_at xs k1 y hy)
 have HFX := Hi (idF_at xs (k1 + 1) x HXK.out)
 obtain ⟨cv, hcv⟩ : ∃ c, c = cmpN (idn y.id) (idn x.id) := ⟨_, rfl⟩
 have HCV := Hi hcv.symm
 by_cases hf : idn y.id < idn x.id
 ·have hc1 : ¬ (0 : Int) ≤ cv := by rw [hcv]; unfold cmpN; rw [if_pos hf]; decide
  have HF := Hi hf
  clear hcv hf hy
  go_wp2_with fail
  obtain ⟨T, hT⟩ : ∃ T : List (Rw w2.heap.size), T = [.is (x.V), .is (.bool true), .is (.bool false), .is (.bool false), .is (.int .i64 (k1 + 1 : Nat)), .is (.bool true), .is (.bool true), .is (.slice (some ⟨ab, o, none⟩) n cap), .is (.int .i64 (k1 + 1 : Nat)), .is (.int .i64 k1), .is (.pointer (some ⟨ab, o + k1 * 42, none⟩)), .is (y.V), .is (.pointer (some ⟨g, 0, none⟩)), .is (digV x.id), .is (.int .i64 cv), .is (.bool false), .is (.bool false), .is (.bool false)] := ⟨_, rfl⟩
  have HTY : T.map Rw.tys = ([[], [], [], [], [], [], [], [], [], [], [], [], [], [], [], [], [], []] : List (List Nat)) := by rw [hT]; rfl
  refine wp_region_gen (JW w2.heap.size w2 [0] T ([[], [], [], [], [], [], [], [], [], [], [], [], [], [], [], [], [], []] : List (List Nat)) ([none, none, none, none, none, none, none, none, none, none, none, none, none, none, none, none, none, none] : List (Option Nat)) ([] : List (Nat × Nat)) 100000) (by kernel_rfl) (by kernel_rfl) (by kernel_rfl) (fitB_spec (by kernel_rfl)) (fun listed f h => JW.start (Nat.le_refl _) listed f h) ?_ ?_
  ·intro i o ho
   have hi : i < 18 := (Array.getElem?_eq_some_iff.1 ho).1
   have hi' : i = 0 ∨ i = 1 ∨ i = 2 ∨ i = 3 ∨ i = 4 ∨ i = 5 ∨ i = 6 ∨ i = 7 ∨ i = 8 ∨ i = 9 ∨ i = 10 ∨ i = 11 ∨ i = 12 ∨ i = 13 ∨ i = 14 ∨ i = 15 ∨ i = 16 ∨ i = 17 := by omega
   clear hi
   rcases hi' with rfl | rfl | rfl | rfl | rfl | rfl | rfl | rfl | rfl | rfl | rfl | rfl | rfl | rfl | rfl | rfl | rfl | rfl
   all_goals (simp only [List.getElem?_toArray, List.getElem?_cons_zero, List.getElem?_cons_succ, Option.some.injEq] at ho; subst ho; intro listed f a w3 hJ hsz hls hun hdep hout hlat; first | (rw [if_pos (by rfl)]; intro K hK) | skip)
   ·have q6 := hout 6 ob
    exact ld_v (.tmp 6) g x rfl q6 (HD.out.ext hJ.ext.below) (hK _ _ (hJ.pl HTY hls hT rfl))
   ·have q17 := hJ.iv hT (hdep ⟨0, .data⟩ (by simp) rfl) rfl rfl _ rfl _ rfl
    clear hsz hdep hout hlat
    go_simp
    refine (vright_any x w3 (XV.out.ext (Ex.trans BW.out hJ.ext.below))).mono ?_
    rintro e w4 ⟨rfl, x3⟩
    rw [← HBR.out]
    exact hK _ _ (hJ.plain HTY (by rw [hls]; decide) x3 (by rw [hT]; rfl) nh)
   ·have q18 := hJ.iv hT (hdep ⟨1, .data⟩ (by simp) rfl) rfl rfl _ rfl _ rfl
    clear hsz hdep hout hlat
    go_simp
    exact hK _ _ (hJ.pl HTY hls hT rfl)
   ·have q19 := hJ.iw hT (hdep ⟨2, .data⟩ (by simp) rfl) rfl rfl _ rfl _ rfl
    exact wp_mw _ rfl q19 (hK _ _ (hJ.pl HTY hls hT rfl))
   ·have kg := hJ.iw hT (hdep ⟨3, .guard⟩ (by simp) rfl) rfl rfl _ rfl _ rfl
    rw [if_pos (wanted_of rfl rfl rfl kg)]
    clear kg
    intro K hK
    have q5 := hout 5 ob
    exact wp_mw _ rfl q5 (hK _ _ (hJ.pl HTY hls hT rfl))
   ·have kg := hJ.iw hT (hdep ⟨3, .guard⟩ (by simp) rfl) rfl rfl _ rfl _ rfl
    rw [if_pos (wanted_of rfl rfl rfl kg)]
    clear kg
    intro K hK
    have q21 := hJ.iv hT (hdep ⟨4, .data⟩ (by simp) rfl) rfl rfl _ rfl _ rfl
    have qk : (0 : Int) < ((k1 + 1 : Nat) : Int) := by omega
    clear hsz hdep hout hlat
    go_simp
    exact hK _ _ (hJ.pl HTY hls hT rfl)
   ·have kg := hJ.iw hT (hdep ⟨3, .guard⟩ (by simp) rfl) rfl rfl _ rfl _ rfl
    rw [if_pos (wanted_of rfl rfl rfl kg)]
    clear kg
    intro K hK
    have q22 := hJ.iw hT (hdep ⟨5, .data⟩ (by simp) rfl) rfl rfl _ rfl _ rfl
    exact wp_mw _ rfl q22 (hK _ _ (hJ.pl HTY hls hT rfl))
   ·have kg := hJ.iw hT (hdep ⟨6, .guard⟩ (by simp) rfl) rfl rfl _ rfl _ rfl
    rw [if_pos (wanted_of rfl rfl rfl kg)]
    clear kg
    intro K hK
    have q1 := hout 1 ob
    exact wp_mw _ rfl q1 (hK _ _ (hJ.pl HTY hls hT rfl))
   ·have kg := hJ.iw hT (hdep ⟨6, .guard⟩ (by simp) rfl) rfl rfl _ rfl _ rfl
    rw [if_pos (wanted_of rfl rfl rfl kg)]
    clear kg
    intro K hK
    have q5 := hout 5 ob
    exact wp_mw _ rfl q5 (hK _ _ (hJ.pl HTY hls hT rfl))
   ·have kg := hJ.iw hT (hdep ⟨6, .guard⟩ (by simp) rfl) rfl rfl _ rfl _ rfl
    rw [if_pos (wanted_of rfl rfl rfl kg)]
    clear kg
    intro K hK
    have q25 := hJ.iv hT (hdep ⟨8, .data⟩ (by simp) rfl) rfl rfl _ rfl _ rfl
    clear hsz hdep hout hlat
    go_simp
    exact hK _ _ (hJ.pa HTY hls hT)
   ·have kg := hJ.iw hT (hdep ⟨6, .guard⟩ (by simp) rfl) rfl rfl _ rfl _ rfl
    rw [if_pos (wanted_of rfl rfl rfl kg)]
    clear kg
    intro K hK
    have q24 := hJ.iv hT (hdep ⟨7, .data⟩ (by simp) rfl) rfl rfl _ rfl _ rfl
    have q26 := hJ.iv hT (hdep ⟨9, .data⟩ (by simp) rfl) rfl rfl _ rfl _ rfl
    clear hsz hdep hout hlat
    go_simp
    exact hK _ _ (hJ.pl HTY hls hT rfl)
   ·have kg := hJ.iw hT (hdep ⟨6, .guard⟩ (by simp) rfl) rfl rfl _ rfl _ rfl
    rw [if_pos (wanted_of rfl rfl rfl kg)]
    clear kg
    intro K hK
    have q27 := hJ.iw hT (hdep ⟨10, .data⟩ (by simp) rfl) rfl rfl _ rfl _ rfl
    exact ld_vr (.tmp 27) ab (o + k1 * 42) y YV.out.ok rfl q27 (fun j u hu => (Below.cell (p := ⟨ab, o + k1 * 42 + j, none⟩) (Ex.trans XX.out hJ.ext.below) HAB.out).trans (YR.out j u hu)) (hK _ _ (hJ.pl HTY hls hT rfl))
   ·have kg := hJ.iw hT (hdep ⟨6, .guard⟩ (by simp) rfl) rfl rfl _ rfl _ rfl
    rw [if_pos (wanted_of rfl rfl rfl kg)]
    clear kg
    intro K hK
    have q6 := hout 6 ob
    rw [gd9] at q6
    clear hsz hdep hout hlat
    go_simp
    exact hK _ _ (hJ.pl HTY hls hT rfl)
   ·have kg := hJ.iw hT (hdep ⟨6, .guard⟩ (by simp) rfl) rfl rfl _ rfl _ rfl
    rw [if_pos (wanted_of rfl rfl rfl kg)]
    clear kg
    intro K hK
    have q29 := hJ.iw hT (hdep ⟨12, .data⟩ (by simp) rfl) rfl rfl _ rfl _ rfl
    exact ld_vid (.tmp 29) g x rfl q29 (HD.out.ext hJ.ext.below) (hK _ _ (hJ.pl HTY hls hT rfl))
   ·have kg := hJ.iw hT (hdep ⟨6, .guard⟩ (by simp) rfl) rfl rfl _ rfl _ rfl
    rw [if_pos (wanted_of rfl rfl rfl kg)]
    clear kg
    intro K hK
    have q28 := hJ.iv hT (hdep ⟨11, .data⟩ (by simp) rfl) rfl rfl _ rfl _ rfl
    have q30 := hJ.iv hT (hdep ⟨13, .data⟩ (by simp) rfl) rfl rfl _ rfl _ rfl
    clear hsz hdep hout hlat
    go_simp
    refine (tcmp_any y x.id w3 YV.out.ok XV.out.ok.idN).mono ?_
    rintro e w4 ⟨rfl, x3⟩
    rw [HCV.out]
    exact hK _ _ (hJ.plain HTY (by rw [hls]; decide) x3 (by rw [hT]; rfl) nh)
   ·have kg := hJ.iw hT (hdep ⟨6, .guard⟩ (by simp) rfl) rfl rfl _ rfl _ rfl
    rw [if_pos (wanted_of rfl rfl rfl kg)]
    clear kg
    intro K hK
    have q31 := hJ.iv hT (hdep ⟨14, .data⟩ (by simp) rfl) rfl rfl _ rfl _ rfl
    clear hsz hdep hout hlat
    go_simp
    exact hK _ _ (hJ.plain HTY (by rw [hls]; decide) (Ex.refl _) (by rw [hT]; first | rfl | exact congrArg Value.bool (decide_eq_false (by omega)) | exact congrArg Value.bool (decide_eq_true (by omega))) nh)
   ·have kg := hJ.iw hT (hdep ⟨3, .guard⟩ (by simp) rfl) rfl rfl _ rfl _ rfl
    rw [if_pos (wanted_of rfl rfl rfl kg)]
    clear kg
    intro K hK
    have q23 := hJ.iv hT (hdep ⟨6, .data⟩ (by simp) rfl) rfl rfl _ rfl _ rfl
    have q32 := hJ.iv hT (hdep ⟨15, .data⟩ (by simp) rfl) rfl rfl _ rfl _ rfl
    clear hsz hdep hout hlat
    go_simp
    exact hK _ _ (hJ.pl HTY hls hT rfl)
   have q20 := hJ.iv hT (hdep ⟨3, .data⟩ (by simp) rfl) rfl rfl _ rfl _ rfl
   have q33 := hJ.iv hT (hdep ⟨16, .data⟩ (by simp) rfl) rfl rfl _ rfl _ rfl
   clear hsz hdep hout hlat
   go_simp
   exact hK _ _ (hJ.pl HTY hls hT rfl)
  intro listed f w3 hall hJ
  have f17 : f 17 = .bool false := by
   have h := hJ.vals 17 (hall 17 (by simp)) no_c
   rw [hT] at h; exact h
  have xk := hJ.ext
  simp only [putAll, Act.put, List.setIfInBounds_toArray, List.set_cons_zero, List.set_cons_succ, Nat.zero_add, Nat.reduceAdd]
  rw [f17]
  clear f17
  clear hJ hall hT HTY
  replace BW := Hi (Ex.trans BW.out (show Ex w2 w3 from xk.below))
  clear xk
  go_wp2_with fail
  go_roundw
  case rel => exact ⟨k1 + 1 + 1, by omega, by go_num, Hi (fun j hj => by
           rcases Nat.lt_or_ge j (k1 + 1) with h | h
           ·exact HG.out j h
           ·obtain rfl : j = k1 + 1 := by omega
            exact ⟨x, HXK.out, HBR.out.symm, fun i hi => by
             obtain rfl : i = k1 := by omega
             rw [HFY.out, HFX.out]; exact HF.out⟩), BW⟩
  case measure => simp [intOf]; omega
 have hc1 : (0 : Int) ≤ cv := by rw [hcv]; unfold cmpN; rw [if_neg hf]; split <;> decide
 have HF := Hi hf
 clear hcv hf hy
 go_wp2_with fail
 obtain ⟨T, hT⟩ : ∃ T : List (Rw w2.heap.size), T = [.is (x.V), .is (.bool true), .is (.bool false), .is (.bool false), .is (.int .i64 (k1 + 1 : Nat)), .is (.bool true), .is (.bool true), .is (.slice (some ⟨ab, o, none⟩) n cap), .is (.int .i64 (k1 + 1 : Nat)), .is (.int .i64 k1), .is (.pointer (some ⟨ab, o + k1 * 42, none⟩)), .is (y.V), .is (.pointer (some ⟨g, 0, none⟩)), .is (digV x.id), .is (.int .i64 cv), .is (.bool true), .is (.bool true), .is (.bool true)] := ⟨_, rfl⟩
 have HTY : T.map Rw.tys = ([[], [], [], [], [], [], [], [], [], [], [], [], [], [], [], [], [], []] : List (List Nat)) := by rw [hT]; rfl
 refine wp_region_gen (JW w2.heap.size w2 [0] T ([[], [], [], [], [], [], [], [], [], [], [], [], [], [], [], [], [], []] : List (List Nat)) ([none, none, none, none, none, none, none, none, none, none, none, none, none, none, none, none, none, none] : List (Option Nat)) ([] : List (Nat × Nat)) 100000) (by kernel_rfl) (by kernel_rfl) (by kernel_rfl) (fitB_spec (by kernel_rfl)) (fun listed f h => JW.start (Nat.le_refl _) listed f h) ?_ ?_
 ·intro i o ho
  have hi : i < 18 := (Array.getElem?_eq_some_iff.1 ho).1
  have hi' : i = 0 ∨ i = 1 ∨ i = 2 ∨ i = 3 ∨ i = 4 ∨ i = 5 ∨ i = 6 ∨ i = 7 ∨ i = 8 ∨ i = 9 ∨ i = 10 ∨ i = 11 ∨ i = 12 ∨ i = 13 ∨ i = 14 ∨ i = 15 ∨ i = 16 ∨ i = 17 := by omega
  clear hi
  rcases hi' with rfl | rfl | rfl | rfl | rfl | rfl | rfl | rfl | rfl | rfl | rfl | rfl | rfl | rfl | rfl | rfl | rfl | rfl
  all_goals (simp only [List.getElem?_toArray, List.getElem?_cons_zero, List.getElem?_cons_succ, Option.some.injEq] at ho; subst ho; intro listed f a w3 hJ hsz hls hun hdep hout hlat; first | (rw [if_pos (by rfl)]; intro K hK) | skip)
  ·have q6 := hout 6 ob
   exact ld_v (.tmp 6) g x rfl q6 (HD.out.ext hJ.ext.below) (hK _ _ (hJ.pl HTY hls hT rfl))
  ·have q17 := hJ.iv hT (hdep ⟨0, .data⟩ (by simp) rfl) rfl rfl _ rfl _ rfl
   clear hsz hdep hout hlat
   go_simp
   refine (vright_any x w3 (XV.out.ext (Ex.trans BW.out hJ.ext.below))).mono ?_
   rintro e w4 ⟨rfl, x3⟩
   rw [← HBR.out]
   exact hK _ _ (hJ.plain HTY (by rw [hls]; decide) x3 (by rw [hT]; rfl) nh)
  ·have q18 := hJ.iv hT (hdep ⟨1, .data⟩ (by simp) rfl) rfl rfl _ rfl _ rfl
   clear hsz hdep hout hlat
   go_simp
   exact hK _ _ (hJ.pl HTY hls hT rfl)
  ·have q19 := hJ.iw hT (hdep ⟨2, .data⟩ (by simp) rfl) rfl rfl _ rfl _ rfl
   exact wp_mw _ rfl q19 (hK _ _ (hJ.pl HTY hls hT rfl))
  ·have kg := hJ.iw hT (hdep ⟨3, .guard⟩ (by simp) rfl) rfl rfl _ rfl _ rfl
   rw [if_pos (wanted_of rfl rfl rfl kg)]
   clear kg
   intro K hK
   have q5 := hout 5 ob
   exact wp_mw _ rfl q5 (hK _ _ (hJ.pl HTY hls hT rfl))
  ·have kg := hJ.iw hT (hdep ⟨3, .guard⟩ (by simp) rfl) rfl rfl _ rfl _ rfl
   rw [if_pos (wanted_of rfl rfl rfl kg)]
   clear kg
   intro K hK
   have q21 := hJ.iv hT (hdep ⟨4, .data⟩ (by simp) rfl) rfl rfl _ rfl _ rfl
   have qk : (0 : Int) < ((k1 + 1 : Nat) : Int) := by omega
   clear hsz hdep hout hlat
   go_simp
   exact hK _ _ (hJ.pl HTY hls hT rfl)
  ·have kg := hJ.iw hT (hdep ⟨3, .guard⟩ (by simp) rfl) rfl rfl _ rfl _ rfl
   rw [if_pos (wanted_of rfl rfl rfl kg)]
   clear kg
   intro K hK
   have q22 := hJ.iw hT (hdep ⟨5, .data⟩ (by simp) rfl) rfl rfl _ rfl _ rfl
   exact wp_mw _ rfl q22 (hK _ _ (hJ.pl HTY hls hT rfl))
  ·have kg := hJ.iw hT (hdep ⟨6, .guard⟩ (by simp) rfl) rfl rfl _ rfl _ rfl
   rw [if_pos (wanted_of rfl rfl rfl kg)]
   clear kg
   intro K hK
   have q1 := hout 1 ob
   exact wp_mw _ rfl q1 (hK _ _ (hJ.pl HTY hls hT rfl))
  ·have kg := hJ.iw hT (hdep ⟨6, .guard⟩ (by simp) rfl) rfl rfl _ rfl _ rfl
   rw [if_pos (wanted_of rfl rfl rfl kg)]
   clear kg
   intro K hK
   have q5 := hout 5 ob
   exact wp_mw _ rfl q5 (hK _ _ (hJ.pl HTY hls hT rfl))
  ·have kg := hJ.iw hT (hdep ⟨6, .guard⟩ (by simp) rfl) rfl rfl _ rfl _ rfl
   rw [if_pos (wanted_of rfl rfl rfl kg)]
   clear kg
   intro K hK
   have q25 := hJ.iv hT (hdep ⟨8, .data⟩ (by simp) rfl) rfl rfl _ rfl _ rfl
   clear hsz hdep hout hlat
   go_simp
   exact hK _ _ (hJ.pa HTY hls hT)
  ·have kg := hJ.iw hT (hdep ⟨6, .guard⟩ (by simp) rfl) rfl rfl _ rfl _ rfl
   rw [if_pos (wanted_of rfl rfl rfl kg)]
   clear kg
   intro K hK
   have q24 := hJ.iv hT (hdep ⟨7, .data⟩ (by simp) rfl) rfl rfl _ rfl _ rfl
   have q26 := hJ.iv hT (hdep ⟨9, .data⟩ (by simp) rfl) rfl rfl _ rfl _ rfl
   clear hsz hdep hout hlat
   go_simp
   exact hK _ _ (hJ.pl HTY hls hT rfl)
  ·have kg := hJ.iw hT (hdep ⟨6, .guard⟩ (by simp) rfl) rfl rfl _ rfl _ rfl
   rw [if_pos (wanted_of rfl rfl rfl kg)]
   clear kg
   intro K hK
   have q27 := hJ.iw hT (hdep ⟨10, .data⟩ (by simp) rfl) rfl rfl _ rfl _ rfl
   exact ld_vr (.tmp 27) ab (o + k1 * 42) y YV.out.ok rfl q27 (fun j u hu => (Below.cell (p := ⟨ab, o + k1 * 42 + j, none⟩) (Ex.trans XX.out hJ.ext.below) HAB.out).trans (YR.out j u hu)) (hK _ _ (hJ.pl HTY hls hT rfl))
  ·have kg := hJ.iw hT (hdep ⟨6, .guard⟩ (by simp) rfl) rfl rfl _ rfl _ rfl
   rw [if_pos (wanted_of rfl rfl rfl kg)]
   clear kg
   intro K hK
   have q6 := hout 6 ob
   rw [gd9] at q6
   clear hsz hdep hout hlat
   go_simp
   exact hK _ _ (hJ.pl HTY hls hT rfl)
  ·have kg := hJ.iw hT (hdep ⟨6, .guard⟩ (by simp) rfl) rfl rfl _ rfl _ rfl
   rw [if_pos (wanted_of rfl rfl rfl kg)]
   clear kg
   intro K hK
   have q29 := hJ.iw hT (hdep ⟨12, .data⟩ (by simp) rfl) rfl rfl _ rfl _ rfl
   exact ld_vid (.tmp 29) g x rfl q29 (HD.out.ext hJ.ext.below) (hK _ _ (hJ.pl HTY hls hT rfl))
  ·have kg := hJ.iw hT (hdep ⟨6, .guard⟩ (by simp) rfl) rfl rfl _ rfl _ rfl
   rw [if_pos (wanted_of rfl rfl rfl kg)]
   clear kg
   intro K hK
   have q28 := hJ.iv hT (hdep ⟨11, .data⟩ (by simp) rfl) rfl rfl _ rfl _ rfl
   have q30 := hJ.iv hT (hdep ⟨13, .data⟩ (by simp) rfl) rfl rfl _ rfl _ rfl
   clear hsz hdep hout hlat
   go_simp
   refine (tcmp_any y x.id w3 YV.out.ok XV.out.ok.idN).mono ?_
   rintro e w4 ⟨rfl, x3⟩
   rw [HCV.out]
   exact hK _ _ (hJ.plain HTY (by rw [hls]; decide) x3 (by rw [hT]; rfl) nh)
  ·have kg := hJ.iw hT (hdep ⟨6, .guard⟩ (by simp) rfl) rfl rfl _ rfl _ rfl
   rw [if_pos (wanted_of rfl rfl rfl kg)]
   clear kg
   intro K hK
   have q31 := hJ.iv hT (hdep ⟨14, .data⟩ (by simp) rfl) rfl rfl _ rfl _ rfl
   clear hsz hdep hout hlat
   go_simp
   exact hK _ _ (hJ.pl HTY hls hT rfl)
  ·have kg := hJ.iw hT (hdep ⟨3, .guard⟩ (by simp) rfl) rfl rfl _ rfl _ rfl
   rw [if_pos (wanted_of rfl rfl rfl kg)]
   clear kg
   intro K hK
   have q23 := hJ.iv hT (hdep ⟨6, .data⟩ (by simp) rfl) rfl rfl _ rfl _ rfl
   have q32 := hJ.iv hT (hdep ⟨15, .data⟩ (by simp) rfl) rfl rfl _ rfl _ rfl
   clear hsz hdep hout hlat
   go_simp
   exact hK _ _ (hJ.pl HTY hls hT rfl)
  have q20 := hJ.iv hT (hdep ⟨3, .data⟩ (by simp) rfl) rfl rfl _ rfl _ rfl
  have q33 := hJ.iv hT (hdep ⟨16, .data⟩ (by simp) rfl) rfl rfl _ rfl _ rfl
  clear hsz hdep hout hlat
  go_simp
  exact hK _ _ (hJ.pl HTY hls hT rfl)
 intro listed f w3 hall hJ
 have f17 : f 17 = .bool true := by
  have h := hJ.vals 17 (hall 17 (by simp)) no_c
  rw [hT] at h; exact h
 have xk := hJ.ext
 simp only [putAll, Act.put, List.setIfInBounds_toArray, List.set_cons_zero, List.set_cons_succ, Nat.zero_add, Nat.reduceAdd]
 rw [f17]
 clear f17
 clear hJ hall hT HTY
 replace BW := Hi (Ex.trans BW.out (show Ex w2 w3 from xk.below))
 clear xk
 go_wp2_with fail
 go_ret
 exact ⟨Or.inr ⟨(fun hr => by have h1 := hr.2.2 k1 (by rw [← HN.out]; omega); rw [HFY.out, HFX.out] at h1; exact HF.out h1), rfl, BW.out⟩, Ex.md BW.out (Nat.le_of_lt HD0.out)⟩
end Go.Proofs.Ytmjfnpmnhehnkaa
namespace Go.Proofs.Ytmjfnpmnhehnkaa
open Go.RowKit
def Lies (w : World) (v v' : Value) : Prop := v'.ownBlock = v.ownBlock ∨ ∀ g, v'.ownBlock = some g → w.heap.size ≤ g
theorem append_where (w : World) (t ty e : TypeId) (i : TypeInfo) (z : Value) (size bytes : Nat) (ht : Try.prog.underlying t = some (.slice e)) (hi : Try.prog.info? e = some i) (hz : i.zero = some z)
  (hsize : i.size = size) (hby : i.bytes = bytes) (B n : Nat) (v : Value) (xs : List Value) (hown : w.ownsRow B e size v n xs)
  (a : Addr) (m c : Nat) (news : List Value) (hl : news.length = m * size) (hnews : ∀ j u, news[j]? = some u → w.cell? (a.add j) = some u) (h1 : ∀ u ∈ news, u.oneCell' = true)
  (hm : 0 < m) (h63 : n + m ≤ maxLen) (hbytes : (n + m) * bytes ≤ 140737488355328) {v' : Value} {w' : World} (hr : (Builtin.append_ #[t, t] ty #[v, .slice (some a) m c]).run Try.prog w = .ok v' w') : Lies w v v' := by
 subst hsize
 subst hby
 have hsmall : n + m ≤ 9223372036854775807 := by simp only [maxLen] at h63; omega
 rcases hown.2 with ⟨rfl, rfl⟩ | ⟨g, cap, cur, rfl, hbg, hg, hnc, hcm, hcs, htake⟩
 ·have h2 := run_append_nil (P := Try.prog) w t ty e i z ht hi hz a m c news hl hnews hm (by omega) (by have hb := hbytes; simp only [Nat.zero_add] at hb; omega)
  rw [h2] at hr
  cases hr
  exact Or.inr fun g hg => by cases hg; exact Nat.le_refl _
 by_cases hroom : n + m ≤ cap
 ·have hfit : n * i.size + news.length ≤ cur.size := by rw [hl, hcs, ← Nat.add_mul]; exact Nat.mul_le_mul_right _ hroom
  have h2 := run_append_room (P := Try.prog) w t ty e i ht hi g n cap cur hg a m c news hl hnews h1 hroom hfit
  rw [h2] at hr
  cases hr
  exact Or.inl rfl
 have holds : ∀ j u, xs[j]? = some u → w.cell? ((⟨g, 0, none⟩ : Addr).add j) = some u := hown.cells (g := g) rfl
 have h2 := run_append_grow (P := Try.prog) w t ty e i z ht hi hz ⟨g, 0, none⟩ n cap xs hown.1 holds a m c news hl hnews (by omega) (by omega) (growslice_fits (by omega) hbytes)
 rw [h2] at hr
 cases hr
 exact Or.inr fun g hg => by cases hg; exact Nat.le_refl _
theorem wp_rtell {o : Oper} {a : Act} {w : World} {K : Act → World → Prop} {Q : Exit → Act → World → Prop} (s x : Operand) (t e : TypeId) (z : Value) (sz bytes : Nat)
  (hop : o.op = .call { callee := .builtin .append, args := #[s, x], argTypes := #[t, t] }) (hu : Try.prog.underlying t = some (.slice e))
  (hinfo : (Try.prog.info? e).map (fun i => (i.zero, i.size, i.bytes)) = some (some z, sz, bytes)) (hz : z.cells.size = sz) (hp : 0 < sz)
  (B n : Nat) (v : Value) (xs : List Value) (hs : a.eval s = v) (hown : w.ownsRow B e sz v n xs) (hB : B ≤ w.heap.size)
  (A : Addr) (m c : Nat) (ys : List Value) (hx : a.eval x = .slice (some A) m c) (hl : ys.length = m * sz) (hr : ∀ j u, ys[j]? = some u → w.cell? (A.add j) = some u) (h1 : ∀ u ∈ ys, u.oneCell' = true) (hm : 0 < m)
  (hN : n + m ≤ 9223372036854775807) (hby : (n + m) * bytes ≤ 140737488355328)
  (h : ∀ v' w', w'.ownsRow B e sz v' (n + m) (xs ++ ys) → w.grownBy w' v.ownBlock → Lies w v v' → K (a.put o.dst v') w') : o.wp Try.prog a w K Q := by
 obtain ⟨i0, hi0, hz0, hz1, hz2⟩ := info_parts hinfo
 obtain ⟨v', w', hrun, r1, r2, _⟩ := run_append_own (P := Try.prog) w B t o.type e i0 z sz bytes hu hi0 hz0 hz1 hz2 hz hp v n xs hown A m c ys hl hr h1 hN hby hB
 have r3 := append_where w t o.type e i0 z sz bytes hu hi0 hz0 hz1 hz2 B n v xs hown A m c ys hl hr h1 hm hN hby hrun
 unfold Oper.wp
 simp [execOp, hop, resolve, invoke, builtin, hs, hx, hrun, Result.andThen]
 exact h v' w' r1 r2 r3
theorem run_copy_bk (w : World) (dT sT ty elem : TypeId) (g o dLen dCap : Nat) (A : Addr) (sLen sCap sz : Nat) (C : List Value) (t : TypeId) (cs : List Value)
  (hu : Try.prog.underlying dT = some (.slice elem)) (hs : (Try.prog.info? elem).map (·.size) = some sz) (hg : Bk w g t C.toArray) (hn : cs.length = Nat.min sLen dLen * sz)
  (hsrc : ∀ j v, cs[j]? = some v → w.cell? (A.add j) = some v) (hfit : o + cs.length ≤ C.length) (h1 : ∀ v ∈ cs, v.oneCell' = true) :
  (Builtin.copy_ #[dT, sT] ty #[.slice (some ⟨g, o, none⟩) dLen dCap, .slice (some A) sLen sCap]).run Try.prog w = .ok (goInt (Nat.min sLen dLen)) (w.setRow g (C.take o ++ cs ++ C.drop (o + cs.length)).toArray) := by
 have hl := run_loadCells_list (P := Try.prog) w A cs hsrc
 have hst := run_storeCells_at Try.prog g o t cs 0 C.toArray w hg (by simpa using hfit) h1
 simp only [Nat.add_zero] at hst
 cases hq : Try.prog.info? elem with
 | none => simp [hq] at hs
 | some i =>
  have hi : i.size = sz := by simpa [hq] using hs
  simp [Builtin.copy_, run_underlying hu, Builtin.lenOf, Builtin.firstCells, sizeOf, typeInfo, hq, hi, ← hn, hl, hst]
theorem Only.setRow (w : World) (g : Nat) (cs : Array Value) : Only g w (w.setRow g cs) := by
 refine ⟨fun B hB a ha => ⟨ha.os, ha.tape, ha.output, by rw [show (w.setRow g cs).heap.size = w.heap.size by simp [World.setRow]]; exact ha.size, fun k hk => (setRow_other w g k cs (by omega)).trans (ha.block k hk)⟩, fun h hne => setRow_other w g h cs hne, by simp [World.setRow]⟩
theorem wp_copy_bk {o : Oper} {a : Act} {w : World} {K : Act → World → Prop} {Q : Exit → Act → World → Prop} (d s : Operand) (dT sT elem : TypeId) (g off dLen dCap : Nat) (A : Addr) (sLen sCap sz : Nat) (C : List Value) (t : TypeId) (cs : List Value)
  (ho : o.op = .call { callee := .builtin .copy, args := #[d, s], argTypes := #[dT, sT] }) (hd : a.eval d = .slice (some ⟨g, off, none⟩) dLen dCap) (hs' : a.eval s = .slice (some A) sLen sCap)
  (hu : Try.prog.underlying dT = some (.slice elem)) (hs : (Try.prog.info? elem).map (·.size) = some sz) (hg : Bk w g t C.toArray) (hn : cs.length = Nat.min sLen dLen * sz)
  (hsrc : ∀ j v, cs[j]? = some v → w.cell? (A.add j) = some v) (hfit : off + cs.length ≤ C.length) (h1 : ∀ v ∈ cs, v.oneCell' = true)
  (h : ∀ w', Bk w' g t (C.take off ++ cs ++ C.drop (off + cs.length)).toArray → Only g w w' → K (a.put o.dst (goInt (Nat.min sLen dLen))) w') : o.wp Try.prog a w K Q := by
 have hr := run_copy_bk w dT sT o.type elem g off dLen dCap A sLen sCap sz C t cs hu hs hg hn hsrc hfit h1
 unfold Oper.wp execOp
 simp only [ho, resolve, invoke, builtin, Sem.run_bind, Sem.run_pure, Result.andThen_ok, List.map_toArray, List.map_cons, List.map_nil, hd, hs', hr]
 exact h _ (setRow_heap w g C.toArray _ t _ hg) (Only.setRow w g _)
theorem run_append_zeros (w : World) (t tn ty e : TypeId) (i : TypeInfo) (z : Value) (k kn : IntKind) (ht : Try.prog.underlying t = some (.slice e)) (htn : Try.prog.underlying tn = some (.int kn)) (hi : Try.prog.info? e = some i) (hz : i.zero = some z)
  (A : Addr) (sLen sCap n : Nat) (olds : List Value) (hlo : olds.length = sLen * i.size) (holds : ∀ j v, olds[j]? = some v → w.cell? (A.add j) = some v)
  (h0 : 0 < n) (hs : 0 < i.size) (hg : sCap < sLen + n) (h63 : sLen + n ≤ 1000) (hbytes : i.bytes ≤ 1000) :
  (Builtin.append_ #[t, tn] ty #[.slice (some A) sLen sCap, .int k n]).run Try.prog w =
   .ok (.slice (some ⟨w.heap.size, 0, none⟩) (sLen + n) (grownCap w (sLen + n) sCap e)) (w.drew.alloc (.cells (olds.toArray ++ Builtin.zeroCells z.cells n ++ Builtin.zeroCells z.cells (grownCap w (sLen + n) sCap e - (sLen + n))) e)) := by
 have hn : n ≠ 0 := by omega
 have hw : IntKind.i64.wrap (n : Int) = n := by rw [IntKind.wrap_i64]; omega
 have hbb : (sLen + n) * i.bytes ≤ 1000 * 1000 := Nat.mul_le_mul h63 hbytes
 have hnb : n * i.bytes ≤ 1000 * 1000 := Nat.mul_le_mul (by omega) hbytes
 have hfit : Builtin.nextslicecap (sLen + n) sCap * i.bytes ≤ 281474976710656 := growslice_fits hg (by omega)
 have h48i : ¬ (281474976710656 < (n : Int) * (i.bytes : Int)) := by
  rw [← Int.natCast_mul]; omega
 have hneg : ¬ ((n : Int) < 0) := by omega
 have hns : ¬ (n * i.size = 0) := Nat.mul_ne_zero hn (by omega)
 have hroom : ¬ (sLen + n ≤ sCap) := by omega
 have hbig : ¬ (9223372036854775807 < ((sLen : Int) + (n : Int))) := by omega
 have h48' : ¬ (281474976710656 < Builtin.nextslicecap (sLen + n) sCap * i.bytes) := by omega
 have hf := fun w : World => run_firstCells_some (P := Try.prog) w i.size sLen A sLen sCap olds hlo
 have hf1 : (Builtin.firstCells i.size sLen (.slice (some A) sLen sCap)).run Try.prog w.drew = .ok olds.toArray w.drew := hf w.drew holds
 simp [Builtin.append_, run_underlying ht, run_underlying htn, sizeOf, typeInfo, zeroValue, hi, hz, asInt, asIntOf, hw, hn, hneg, hns, hroom, hbig, h48', h48i, Question.forced, hf1, newRow, grownCap]
theorem take_mid {A z Y C : List Value} {a b : Nat} (hA : A.length = a) (hz : z.length = b) (hC : C.take a = A) (hfit : a + b + Y.length ≤ C.length) :
  (((C.take a ++ z ++ C.drop (a + b)).take (a + b) ++ Y ++ (C.take a ++ z ++ C.drop (a + b)).drop (a + b + Y.length))).take (a + b + Y.length) = A ++ z ++ Y := by
 have h1 : (A ++ z ++ C.drop (a + b)).take (a + b) = A ++ z := by
  rw [List.take_append_of_le_length (by rw [List.length_append]; omega), List.take_of_length_le (by rw [List.length_append]; omega)]
 rw [hC, h1, List.take_append_of_le_length (by simp; omega), List.take_of_length_le (by simp; omega)]
theorem take_shift {A z Y C : List Value} {a b : Nat} (hA : A.length = a) (hz : z.length = b) (hC : C.take (a + Y.length) = A ++ Y) (hfit : a + b + Y.length ≤ C.length) :
  (((C.take (a + b) ++ Y ++ C.drop (a + b + Y.length)).take a ++ z ++ (C.take (a + b) ++ Y ++ C.drop (a + b + Y.length)).drop (a + b))).take (a + b + Y.length) = A ++ z ++ Y := by
 have hl : (C.take (a + b)).length = a + b := by rw [List.length_take]; omega
 have hA2 : C.take a = A := by
  have := congrArg (List.take a) hC
  have e : A.take a = A := List.take_of_length_le (by omega)
  rw [List.take_take, Nat.min_eq_left (by omega), List.take_append_of_le_length (by omega), e] at this
  exact this
 have h1 : (C.take (a + b) ++ Y ++ C.drop (a + b + Y.length)).take a = A := by
  rw [List.append_assoc, List.take_append_of_le_length (by omega), List.take_take, Nat.min_eq_left (by omega), hA2]
 have h2 : (C.take (a + b) ++ Y ++ C.drop (a + b + Y.length)).drop (a + b) = Y ++ C.drop (a + b + Y.length) := by
  rw [List.append_assoc, List.drop_append_of_le_length (by omega), List.drop_of_length_le (by omega), List.nil_append]
 rw [h1, h2, List.take_append, List.take_of_length_le (by simp; omega)]
 congr 1
 have h3 : a + b + Y.length - (A ++ z).length = Y.length := by simp; omega
 rw [h3, List.take_append_of_le_length (Nat.le_refl _), List.take_length]
theorem grownBy_only {g : Nat} {w w1 w2 : World} {r : Option Nat} (h : w.grownBy w1 r) (k : Only g w1 w2) (hg : r = some g ∨ w.heap.size ≤ g) : w.grownBy w2 r := by
 have hb := k.below 0 (Nat.zero_le _) w1 (Below.refl 0 w1)
 refine ⟨hb.os.trans h.os, hb.tape.trans h.tape, hb.output.trans h.output, by rw [k.size]; exact h.size, fun j hj hne => (k.other j ?_).trans (h.block j hj hne)⟩
 rintro rfl
 rcases hg with hg | hg
 ·exact hne hg.symm
 omega
theorem grownBy_ex {w w1 w2 : World} {r : Option Nat} (h : w.grownBy w1 r) (k : Ex w1 w2) : w.grownBy w2 r :=
 ⟨k.os.trans h.os, k.tape.trans h.tape, k.output.trans h.output, Nat.le_trans h.size (Below.size k), fun j hj hne => (k.block j (Nat.lt_of_lt_of_le hj h.size)).trans (h.block j hj hne)⟩
theorem Ex.grownBy {w w1 : World} (r : Option Nat) (k : Ex w w1) : w.grownBy w1 r := ⟨k.os, k.tape, k.output, Below.size k, fun j hj _ => k.block j hj⟩
end Go.Proofs.Ytmjfnpmnhehnkaa
