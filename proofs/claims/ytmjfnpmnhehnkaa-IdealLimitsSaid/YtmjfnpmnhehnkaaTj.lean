/- ref.Vaults: rows of vaults are the same -/
import Derived.Test.YtmjfnpmnhehnkaaTe
namespace Go.Proofs.Ytmjfnpmnhehnkaa
open Go.RowKit
theorem ct_take_succ {xs ys : List Vt} {k : Nat} {x y : Vt} (h : (xs.take k).map Vt.ct = (ys.take k).map Vt.ct) (hx : xs[k]? = some x) (hy : ys[k]? = some y) (e : x.ct = y.ct) : (xs.take (k + 1)).map Vt.ct = (ys.take (k + 1)).map Vt.ct := by
 rw [List.take_add_one, List.take_add_one, List.map_append, List.map_append, h, hx, hy]
 simp [e]
theorem ct_ne {xs ys : List Vt} {k : Nat} {x y : Vt} (hx : xs[k]? = some x) (hy : ys[k]? = some y) (e : x.ct ≠ y.ct) : xs.map Vt.ct ≠ ys.map Vt.ct := fun h => e (by
 have h1 : (xs.map Vt.ct)[k]? = (ys.map Vt.ct)[k]? := by rw [h]
 rw [List.getElem?_map, List.getElem?_map, hx, hy] at h1
 simpa using h1)
set_option maxHeartbeats 4000000 in
set_option maxRecDepth 100000 in
theorem rvs_any (ad1 ad2 : Option Addr) (cap1 cap2 : Nat) (xs ys : List Vt) (c1 : cap1 ≤ 9223372036854775807) (c2 : cap2 ≤ 9223372036854775807) (w : World) (h1 : Vp.In ad1 cap1 xs w) (h2 : Vp.In ad2 cap2 ys w) (v1 : ∀ (i : Nat) (x : Vt), xs[i]? = some x → VI w x) (v2 : ∀ (i : Nat) (x : Vt), ys[i]? = some x → VI w x) :
  Calls Try.prog 30 #[.slice ad1 xs.length cap1, .slice ad2 ys.length cap2] w fun e w' => e = .returned (.bool (decide (xs.map Vt.ct = ys.map Vt.ct))) ∧ Ex w w' := by
 have H1 := Lib.hid h1
 have H2 := Lib.hid h2
 have V1 := Lib.hid v1
 have V2 := Lib.hid v2
 obtain ⟨n, hn⟩ : ∃ n, n = xs.length := ⟨_, rfl⟩
 obtain ⟨m, hm⟩ : ∃ m, m = ys.length := ⟨_, rfl⟩
 have hnb : n ≤ 9223372036854775807 := by rw [hn]; exact Nat.le_trans h1.len c1
 have hmb : m ≤ 9223372036854775807 := by rw [hm]; exact Nat.le_trans h2.len c2
 rw [← hn, ← hm]
 have HN := Lib.hid hn
 have HM := Lib.hid hm
 obtain ⟨br, hbr⟩ : ∃ b, b = decide (xs.map Vt.ct = ys.map Vt.ct) := ⟨_, rfl⟩
 rw [← hbr]
 have HBR := Lib.hid hbr
 clear h1 h2 v1 v2 hn hm hbr c1 c2
 by_cases hnm : n = m
 ·obtain rfl := hnm
  go_enter Try.func30, Try.ntmps30
  go_wp2_with (first | (with_reducible refine stop_load (t := 36) ?_) | (with_reducible refine stop_store (t := 36) ?_) | (with_reducible refine stop_load (t := 32) ?_) | (with_reducible refine stop_store (t := 32) ?_) | (with_reducible refine stop_build (t := 36) ?_) | (with_reducible refine stop_bs (t := 37) ?_) | (with_reducible refine stop_app ?_))
  go_loopw [5] (fun i wr => ∃ k : Nat, k ≤ n ∧ i = .int .i64 k ∧ Hid ((xs.take k).map Vt.ct = (ys.take k).map Vt.ct) ∧ Hid (Ex w wr)) (fun i _ => n - (intOf i).toNat)
  case atStart => exact ⟨0, by omega, rfl, Lib.hid rfl, Lib.hid (Ex.refl _)⟩
  case round =>
   obtain ⟨k, hk, rfl, HG, BW⟩ := hrel
   by_cases hlt : k < n
   ·have q0 : (0 : Int) ≤ (k : Int) := by omega
    have q1 : (k : Int) < (n : Int) := by omega
    obtain ⟨x, hx⟩ : ∃ z, xs[k]? = some z := ⟨_, List.getElem?_eq_getElem (by rw [← HN.out]; exact hlt)⟩
    obtain ⟨a1, o1, rfl, ha1, hr1⟩ := (H1.out.ext BW.out).read (by rw [← HN.out]; omega)
    have R1 := Lib.hid (hr1 k x hx)
    have I1 := Lib.hid (V1.out k x hx)
    have K1 := Lib.hid hx
    have A1 := Lib.hid ha1
    clear hr1 ha1 hx
    obtain ⟨y, hy⟩ : ∃ z, ys[k]? = some z := ⟨_, List.getElem?_eq_getElem (by rw [← HM.out]; exact hlt)⟩
    obtain ⟨a2, o2, rfl, ha2, hr2⟩ := (H2.out.ext BW.out).read (by rw [← HM.out]; omega)
    have R2 := Lib.hid (hr2 k y hy)
    have I2 := Lib.hid (V2.out k y hy)
    have K2 := Lib.hid hy
    have A2 := Lib.hid ha2
    clear hr2 ha2 hy
    obtain ⟨b, hb⟩ : ∃ b, b = decide (x.ct = y.ct) := ⟨_, rfl⟩
    have HB := Lib.hid hb
    clear hb
    go_wp2_with (first | (with_reducible refine stop_load (t := 36) ?_) | (with_reducible refine stop_store (t := 36) ?_) | (with_reducible refine stop_load (t := 32) ?_) | (with_reducible refine stop_store (t := 32) ?_) | (with_reducible refine stop_build (t := 36) ?_) | (with_reducible refine stop_bs (t := 37) ?_) | (with_reducible refine stop_app ?_))
    obtain ⟨T, hT⟩ : ∃ T : List (Rw wr.heap.size), T = [.is (.slice (some ⟨a1, o1, none⟩) n cap1), .is (.int .i64 k), .is (.pointer (some ⟨a1, o1 + k * 42, none⟩)), .is (x.V), .is (.slice (some ⟨a2, o2, none⟩) n cap2), .is (.int .i64 k), .is (.pointer (some ⟨a2, o2 + k * 42, none⟩)), .is (y.V), .is (.bool b), .is (.bool (!b))] := ⟨_, rfl⟩
    have HTY : T.map Rw.tys = ([[], [], [], [], [], [], [], [], [], []] : List (List Nat)) := by rw [hT]; rfl
    refine wp_region_gen (JW wr.heap.size wr [0] T ([[], [], [], [], [], [], [], [], [], []] : List (List Nat)) ([none, none, none, none, none, none, none, none, none, none] : List (Option Nat)) ([] : List (Nat × Nat)) 100000) (by kernel_rfl) (by kernel_rfl) (by kernel_rfl) (fitB_spec (by kernel_rfl)) (fun listed f h => JW.start (Nat.le_refl _) listed f h) ?_ ?_
    ·intro i o ho
     have hi : i < 10 := (Array.getElem?_eq_some_iff.1 ho).1
     have hi' : i = 0 ∨ i = 1 ∨ i = 2 ∨ i = 3 ∨ i = 4 ∨ i = 5 ∨ i = 6 ∨ i = 7 ∨ i = 8 ∨ i = 9 := by omega
     clear hi
     rcases hi' with rfl | rfl | rfl | rfl | rfl | rfl | rfl | rfl | rfl | rfl
     all_goals (simp only [List.getElem?_toArray, List.getElem?_cons_zero, List.getElem?_cons_succ, Option.some.injEq] at ho; subst ho; intro listed f a w2 hJ hsz hls hun hdep hout hlat)
     ·rw [if_pos (by rfl)]
      intro K hK
      have q0 := hout 0 (outB_spec (by kernel_rfl))
      have hord := no_ord 0 listed
      refine wp_mv _ rfl (hK _ _ ?_)
      rw [show a.eval (.tmp 0) = .slice (some ⟨a1, o1, none⟩) n cap1 from q0]
      exact hJ.plain HTY (by rw [hls]; decide) (Ex.refl _) (by rw [hT]; rfl) hord
     ·rw [if_pos (by rfl)]
      intro K hK
      have q5 := hout 5 (outB_spec (by kernel_rfl))
      have hord := no_ord 1 listed
      refine wp_mv _ rfl (hK _ _ ?_)
      rw [show a.eval (.tmp 5) = .int .i64 k from q5]
      exact hJ.plain HTY (by rw [hls]; decide) (Ex.refl _) (by rw [hT]; rfl) hord
     ·rw [if_pos (by rfl)]
      intro K hK
      have dd17 := hdep ⟨0, .data⟩ (by simp) rfl
      have q17 := dd17.2 _ rfl _ rfl
      have h17 := hJ.vals 0 dd17.1 no_c
      rw [hT] at h17
      rw [show f 0 = .slice (some ⟨a1, o1, none⟩) n cap1 from h17] at q17
      clear h17
      clear dd17
      have dd18 := hdep ⟨1, .data⟩ (by simp) rfl
      have q18 := dd18.2 _ rfl _ rfl
      have h18 := hJ.vals 1 dd18.1 no_c
      rw [hT] at h18
      rw [show f 1 = .int .i64 k from h18] at q18
      clear h18
      clear dd18
      have hord := no_ord 2 listed
      rw [Array.getD_eq_getD_getElem?] at q17
      rw [Array.getD_eq_getD_getElem?] at q18
      clear hsz hdep hout hlat
      go_simp
      exact hK _ _ (hJ.plain HTY (by rw [hls]; decide) (Ex.refl _) (by rw [hT]; first | rfl | exact int_eq (by omega) | exact int_eq (by rw [IntKind.wrap_i64]; omega)) hord)
     ·rw [if_pos (by rfl)]
      intro K hK
      have dd19 := hdep ⟨2, .data⟩ (by simp) rfl
      have q19 := dd19.2 _ rfl _ rfl
      have h19 := hJ.vals 2 dd19.1 no_c
      rw [hT] at h19
      rw [show f 2 = .pointer (some ⟨a1, o1 + k * 42, none⟩) from h19] at q19
      clear h19
      clear dd19
      have hord := no_ord 3 listed
      exact ld_vr (.tmp 19) a1 (o1 + k * 42) x I1.out.ok rfl q19 (fun j u hu => (Below.cell (p := ⟨a1, o1 + k * 42 + j, none⟩) hJ.ext.below A1.out).trans (R1.out j u hu)) (hK _ _ (hJ.plain HTY (by rw [hls]; decide) (Ex.refl _) (by rw [hT]; rfl) hord))
     ·rw [if_pos (by rfl)]
      intro K hK
      have q1 := hout 1 (outB_spec (by kernel_rfl))
      have hord := no_ord 4 listed
      refine wp_mv _ rfl (hK _ _ ?_)
      rw [show a.eval (.tmp 1) = .slice (some ⟨a2, o2, none⟩) n cap2 from q1]
      exact hJ.plain HTY (by rw [hls]; decide) (Ex.refl _) (by rw [hT]; rfl) hord
     ·rw [if_pos (by rfl)]
      intro K hK
      have q5 := hout 5 (outB_spec (by kernel_rfl))
      have hord := no_ord 5 listed
      refine wp_mv _ rfl (hK _ _ ?_)
      rw [show a.eval (.tmp 5) = .int .i64 k from q5]
      exact hJ.plain HTY (by rw [hls]; decide) (Ex.refl _) (by rw [hT]; rfl) hord
     ·rw [if_pos (by rfl)]
      intro K hK
      have dd21 := hdep ⟨4, .data⟩ (by simp) rfl
      have q21 := dd21.2 _ rfl _ rfl
      have h21 := hJ.vals 4 dd21.1 no_c
      rw [hT] at h21
      rw [show f 4 = .slice (some ⟨a2, o2, none⟩) n cap2 from h21] at q21
      clear h21
      clear dd21
      have dd22 := hdep ⟨5, .data⟩ (by simp) rfl
      have q22 := dd22.2 _ rfl _ rfl
      have h22 := hJ.vals 5 dd22.1 no_c
      rw [hT] at h22
      rw [show f 5 = .int .i64 k from h22] at q22
      clear h22
      clear dd22
      have hord := no_ord 6 listed
      rw [Array.getD_eq_getD_getElem?] at q21
      rw [Array.getD_eq_getD_getElem?] at q22
      clear hsz hdep hout hlat
      go_simp
      exact hK _ _ (hJ.plain HTY (by rw [hls]; decide) (Ex.refl _) (by rw [hT]; first | rfl | exact int_eq (by omega) | exact int_eq (by rw [IntKind.wrap_i64]; omega)) hord)
     ·rw [if_pos (by rfl)]
      intro K hK
      have dd23 := hdep ⟨6, .data⟩ (by simp) rfl
      have q23 := dd23.2 _ rfl _ rfl
      have h23 := hJ.vals 6 dd23.1 no_c
      rw [hT] at h23
      rw [show f 6 = .pointer (some ⟨a2, o2 + k * 42, none⟩) from h23] at q23
      clear h23
      clear dd23
      have hord := no_ord 7 listed
      exact ld_vr (.tmp 23) a2 (o2 + k * 42) y I2.out.ok rfl q23 (fun j u hu => (Below.cell (p := ⟨a2, o2 + k * 42 + j, none⟩) hJ.ext.below A2.out).trans (R2.out j u hu)) (hK _ _ (hJ.plain HTY (by rw [hls]; decide) (Ex.refl _) (by rw [hT]; rfl) hord))
     ·rw [if_pos (by rfl)]
      intro K hK
      have dd20 := hdep ⟨3, .data⟩ (by simp) rfl
      have q20 := dd20.2 _ rfl _ rfl
      have h20 := hJ.vals 3 dd20.1 no_c
      rw [hT] at h20
      rw [show f 3 = x.V from h20] at q20
      clear h20
      clear dd20
      have dd24 := hdep ⟨7, .data⟩ (by simp) rfl
      have q24 := dd24.2 _ rfl _ rfl
      have h24 := hJ.vals 7 dd24.1 no_c
      rw [hT] at h24
      rw [show f 7 = y.V from h24] at q24
      clear h24
      clear dd24
      have hord := no_ord 8 listed
      rw [Array.getD_eq_getD_getElem?] at q20
      rw [Array.getD_eq_getD_getElem?] at q24
      clear hsz hdep hout hlat
      go_simp
      refine (rsame_any x y w2 (I1.out.ext (Ex.trans BW.out hJ.ext.below)) (I2.out.ext (Ex.trans BW.out hJ.ext.below))).mono ?_
      rintro e w3 ⟨rfl, x3⟩
      exact hK _ _ (hJ.plain HTY (by rw [hls]; decide) x3 (by rw [hT]; exact congrArg Value.bool HB.out.symm) hord)
     ·rw [if_pos (by rfl)]
      intro K hK
      have dd25 := hdep ⟨8, .data⟩ (by simp) rfl
      have q25 := dd25.2 _ rfl _ rfl
      have h25 := hJ.vals 8 dd25.1 no_c
      rw [hT] at h25
      rw [show f 8 = .bool b from h25] at q25
      clear h25
      clear dd25
      have hord := no_ord 9 listed
      rw [Array.getD_eq_getD_getElem?] at q25
      clear hsz hdep hout hlat
      go_simp
      exact hK _ _ (hJ.plain HTY (by rw [hls]; decide) (Ex.refl _) (by rw [hT]; first | rfl | exact int_eq (by omega) | exact int_eq (by rw [IntKind.wrap_i64]; omega)) hord)
    ·intro listed f w2 hall hJ
     have f9 : f 9 = .bool (!b) := by
      have h := hJ.vals 9 (hall 9 (by simp)) no_c
      rw [hT] at h; exact h
     have xk := hJ.ext
     simp only [putAll, Act.put, List.setIfInBounds_toArray, List.set_cons_zero, List.set_cons_succ, Nat.zero_add, Nat.reduceAdd]
     rw [f9]
     clear f9
     clear hJ hall hT HTY
     generalize f 0 = y0
     generalize f 1 = y1
     generalize f 2 = y2
     generalize f 3 = y3
     generalize f 4 = y4
     generalize f 5 = y5
     generalize f 6 = y6
     generalize f 7 = y7
     generalize f 8 = y8
     replace BW := Lib.hid (Ex.trans BW.out (show Ex wr w2 from xk.below))
     clear xk
     cases b
     ·skip
      go_wp2_with fail
      go_ret
      exact ⟨by rw [HBR.out, decide_eq_false (ct_ne K1.out K2.out (of_decide_eq_false HB.out.symm))]; rfl, BW.out⟩
     ·skip
      go_wp2_with (first | (with_reducible refine stop_load (t := 36) ?_) | (with_reducible refine stop_store (t := 36) ?_) | (with_reducible refine stop_load (t := 32) ?_) | (with_reducible refine stop_store (t := 32) ?_) | (with_reducible refine stop_build (t := 36) ?_) | (with_reducible refine stop_bs (t := 37) ?_) | (with_reducible refine stop_app ?_))
      go_roundw
      case rel => exact ⟨k + 1, by omega, by first | rfl | go_num, Lib.hid (ct_take_succ HG.out K1.out K2.out (of_decide_eq_true HB.out.symm)), BW⟩
      case measure => simp [intOf]; omega
   ·obtain rfl : k = n := by omega
    have q1 : ¬ (k : Int) < (k : Int) := by omega
    go_wp2_with fail
    go_ret
    exact ⟨by rw [HBR.out, decide_eq_true (by have := HG.out; rw [List.take_of_length_le (by rw [← HN.out]; exact Nat.le_refl _), List.take_of_length_le (by rw [← HM.out]; exact Nat.le_refl _)] at this; exact this)]; rfl, BW.out⟩
 ·have hi : ¬ (n : Int) = (m : Int) := by omega
  go_enter Try.func30, Try.ntmps30
  go_wp2_with fail
  go_ret
  exact ⟨by rw [HBR.out, decide_eq_false (fun h => hnm (by rw [HN.out, HM.out]; have := congrArg List.length h; simpa using this))]; rfl, Ex.refl _⟩
end Go.Proofs.Ytmjfnpmnhehnkaa
