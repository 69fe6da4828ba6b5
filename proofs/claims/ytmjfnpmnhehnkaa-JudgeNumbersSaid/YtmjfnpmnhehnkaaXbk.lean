/- Jp -/
import Derived.Test.YtmjfnpmnhehnkaaXbj
namespace Go.Proofs.Ytmjfnpmnhehnkaa.K
open Go.RowKit
set_option maxHeartbeats 8000000 in
set_option maxRecDepth 100000 in
theorem pdo_any (w0 : World) (P : Nat) (rv : Value) (xs : List Vt) (q : Qt) (w : World) (h : PB w0 w P rv xs) (hr : ∀ x ∈ xs, x.ct.right = true) (hl : xs.length ≤ 1000) (hq : QI w q) (hqs : SK w0 w q.sec) : Calls Try.prog 80 #[.pointer (some ⟨P, 0, none⟩), q.V] w (PDoPost w0 P rv xs q w) := by
 have HP := Hi h
 have HR := Hi hr
 have HL := Hi hl
 have HQI := Hi hq
 have HQS := Hi hqs
 have HPL := Hi h.blk.lt
 obtain ⟨ds, hds⟩ : ∃ ds, ds = q.C.toArray := ⟨_, rfl⟩
 have Q0 : Hid (QB ((w.alloc (.cells ds 86)).alloc (.cells zeroRt.C.toArray 83)) w.heap.size q) := Hi ⟨hq.1, by rw [hds]; exact (Bk.new rfl _ _).more _⟩
 have R0 : Hid (RB ((w.alloc (.cells ds 86)).alloc (.cells zeroRt.C.toArray 83)) (w.heap.size + 1) zeroRt) := Hi ⟨zeroRt_ok, Bk.new (by simp) _ _⟩
 have BW : Hid (Ex w ((w.alloc (.cells ds 86)).alloc (.cells zeroRt.C.toArray 83))) := Hi (Ex.trans (Ex.alloc w _) (Ex.alloc _ _))
 rw [show (Calls Try.prog 80 #[.pointer (some ⟨P, 0, none⟩), q.V] w) = (Calls Try.prog 80 #[.pointer (some ⟨P, 0, none⟩), .agg ds] w) by rw [hds]; rfl]
 obtain ⟨rq, hrq⟩ : ∃ b, b = q.ct.right := ⟨_, rfl⟩
 have HRQ := Hi hrq
 clear hds h hr hl hq hqs hrq
 go_enter Try.func80, Try.ntmps80
 go_wp2_with (first | ((with_reducible refine so2 [1000+37] ?_ ?_); (focus rfl)) | (with_reducible refine stop_bs ?_) | (with_reducible refine stop_app ?_))
 (with_reducible refine ⟨?_⟩)
 change wpList _ _ _ _ _ ((w.alloc (.cells ds 86)).alloc (.cells zeroRt.C.toArray 83))
 generalize hw1 : ((w.alloc (.cells ds 86)).alloc (.cells zeroRt.C.toArray 83)) = w1 at *
 clear hw1
 obtain ⟨B, hB⟩ : ∃ B, B = w.heap.size := ⟨_, rfl⟩
 rw [← hB] at Q0 R0 ⊢
 have HB := Hi hB
 clear hB
 go_wp2_with (first | ((with_reducible refine so2 [1000+37] ?_ ?_); (focus rfl)) | (with_reducible refine stop_bs ?_) | (with_reducible refine stop_app ?_))
 refine at9 (by go_simp) fun K0 hK => ld_q _ _ q rfl rfl Q0.out (hK _ _ ?_)
 clear hK
 go_wp2_with (first | ((with_reducible refine so2 [1000+37] ?_ ?_); (focus rfl)) | (with_reducible refine stop_bs ?_) | (with_reducible refine stop_app ?_))
 refine (rqright_any q _ (HQI.out.ext BW.out)).mono ?_
 rintro e w2 ⟨rfl, x2⟩
 rw [← HRQ.out]
 replace Q0 := Hi (Q0.out.ext x2)
 replace R0 := Hi (R0.out.ext x2)
 replace BW := Hi (Ex.trans BW.out x2)
 clear x2
 cases rq
 case false =>
  go_wp2_with (first | ((with_reducible refine so2 [1000+37] ?_ ?_); (focus rfl)) | (with_reducible refine stop_bs ?_) | (with_reducible refine stop_app ?_))
  refine at9 (by go_simp) fun K0 hK => wp_build _ _ rfl _ built_err (hK _ _ ?_)
  clear hK
  go_wp2_with (first | ((with_reducible refine so2 [1000+37] ?_ ?_); (focus rfl)) | (with_reducible refine stop_bs ?_) | (with_reducible refine stop_app ?_))
  refine at9 (by go_simp) fun K0 hK => st_r _ _ (B + 1) (repRt 12 z4 0 0) rfl rfl rfl (repRt_ok (by decide) (by decide) rfl (by decide) (by decide) (by decide) (by decide)) R0.out.2 (by rw [List.size_toArray, Rt.len R0.out.1]) (fun wz hd ho => hK _ _ ?_)
  clear hK
  have hkt : Kt [83] w0.heap.size w2 wz := Kt.md ho.md (by have h1 := HP.out.lo; have h2 := HPL.out; have := HB.out; omega) R0.out.2 (List.mem_singleton.2 rfl)
  have HPZ := Hi ((HP.out.ext BW.out).kt hkt (by decide) (by decide) (by decide))
  have HPN := Hi (show PN wz w.heap.size ((repRt 12 z4 0 0)).sec from PN.onlyT (nilB_pn _ _) ho R0.out.2 (by decide))
  have BZ := Hi (ho.below w.heap.size (by rw [← HB.out]; omega) w BW.out)
  have HD := Hi hd
  clear hd ho hkt
  go_wp2_with fail
  exact bodyPost_ret (res_r rfl _ _ (B + 1) rfl ((repRt 12 z4 0 0)) HD.out) rfl ⟨(repRt 12 z4 0 0), rv, xs, rfl, HD.out.1, HPN.out, HPZ.out, Or.inl ⟨HRQ.out.symm, rfl, rfl⟩, Ex.md BZ.out (Nat.le_of_lt HPL.out), Or.inl rfl⟩
 go_wp2_with fail
 obtain ⟨adp, capp, ervp, hinp, hcapp⟩ := HP.out.inn
 have HERV := Hi ervp
 have HIN := Hi hinp
 obtain ⟨n, hn⟩ : ∃ n, n = xs.length := ⟨_, rfl⟩
 have HN := Hi hn
 have hnc : n ≤ capp := by rw [hn]; exact hinp.len
 have hncap : n ≤ 9223372036854775807 := by omega
 clear ervp hinp hn
 go_loopw [5, 6, 7] (fun t5 t6 t7 wr => ∃ (i : Nat) (k : Int), i ≤ n ∧ t7 = .int .i64 i ∧ t5 = .int .i64 k ∧ t6 = .int .i64 (cntS (xs.take i) q.id) ∧ Hid ((k = -1 ∧ ∀ y ∈ xs.take i, y.id ≠ q.id) ∨ ∃ (j : Nat) (x : Vt), k = (j : Int) ∧ j < i ∧ xs[j]? = some x ∧ x.id = q.id) ∧ Hid (Ex w2 wr)) (fun _ _ t7 _ => n - (intOf t7).toNat)
 case atStart => exact ⟨0, -1, by omega, rfl, rfl, rfl, Hi (Or.inl ⟨rfl, fun y hy => by simp at hy⟩), Hi (Ex.refl _)⟩
 obtain ⟨i, k, hi, rfl, rfl, rfl, HKK, BX⟩ := hrel
 have PBX := Hi ((HP.out.ext BW.out).ext BX.out)
 have c0 : wr.cell? ⟨P, 0, none⟩ = some (.slice adp n capp) := by rw [PBX.out.blk.cell]; simp [HN.out, HERV.out]
 by_cases hlt : i < n
 ·have q0 : (0 : Int) ≤ (i : Int) := by omega
  have q1 : (i : Int) < (n : Int) := by omega
  obtain ⟨ab, ofs, rfl, hab, hra⟩ := ((HIN.out.ext BW.out).ext BX.out).read (by rw [← HN.out]; omega)
  obtain ⟨x, hx⟩ : ∃ x, xs[i]? = some x := ⟨_, List.getElem?_eq_getElem (by rw [← HN.out]; exact hlt)⟩
  have XOK := Hi (HIN.out.ok i x hx)
  have XR : Hid (wr.rangeAt ab (ofs + i * 42) x.C) := Hi (hra i x hx)
  have HX := Hi hx
  have HAB := Hi hab
  have Q1 := Hi (Q0.out.ext BX.out)
  clear hra hab hx
  go_wp2_with fail
  have hS0 : ∀ (listed : Array Bool) (f : Nat → Value), (∀ i, listed.getD i false = false) → Ex wr wr.drew := fun _ _ _ => (Below.refl wr.heap.size wr).drew
  obtain ⟨T, hT⟩ : ∃ T : List (Value → Prop), T = [(fun zz => zz = .pointer (some ⟨P, 0, none⟩)), (fun zz => zz = .pointer (some ⟨P, 0, none⟩)), (fun zz => zz = .pointer (some ⟨P, 0, none⟩)), (fun zz => zz = .slice (some ⟨ab, ofs, none⟩) n capp), (fun zz => zz = .int .i64 i), (fun zz => zz = .pointer (some ⟨ab, ofs + i * 42, none⟩)), (fun zz => zz = .pointer (some ⟨ab, ofs + i * 42, none⟩)), (fun zz => zz = digV x.id), (fun zz => zz = .pointer (some ⟨B, 1, none⟩)), (fun zz => zz = digV q.id), (fun zz => zz = .bool (decide (x.id = q.id)))] := ⟨_, rfl⟩
  refine wp_region_gen (JS T ([] : List (Nat × Nat)) (fun _ _ w => Ex wr w)) (by kernel_rfl) (by kernel_rfl) (by kernel_rfl) (fitB_spec (by kernel_rfl)) (fun listed f h => JS.start listed f h (hS0 listed f h)) ?_ ?_
  ·intro i o ho
   have hi : i < 11 := (Array.getElem?_eq_some_iff.1 ho).1
   have hi' : i = 0 ∨ i = 1 ∨ i = 2 ∨ i = 3 ∨ i = 4 ∨ i = 5 ∨ i = 6 ∨ i = 7 ∨ i = 8 ∨ i = 9 ∨ i = 10 := by omega
   clear hi
   rcases hi' with rfl | rfl | rfl | rfl | rfl | rfl | rfl | rfl | rfl | rfl | rfl
   all_goals (simp only [List.getElem?_toArray, List.getElem?_cons_zero, List.getElem?_cons_succ, Option.some.injEq] at ho; subst ho; intro listed f a w3 hJ hsz hls hun hdep hout hlat; first | (rw [if_pos (by rfl)]; intro K hK) | skip)
   ·have q0 := hout 0 (outB_spec (by kernel_rfl))
    refine wp_mv _ rfl (hK _ _ ?_)
    rw [show a.eval (.tmp 0) = .pointer (some ⟨P, 0, none⟩) from q0]
    exact hJ.nx hls hT rfl rfl hJ.st (no_head rfl)
   ·have q25 := hJ.iq hT (hdep ⟨0, .data⟩ (by simp) rfl) rfl _ rfl _ rfl
    clear hsz hdep hout hlat
    go_simp
    exact hK _ _ (hJ.nx hls hT rfl rfl hJ.st (no_head rfl))
   ·have q26 := hJ.iq hT (hdep ⟨1, .data⟩ (by simp) rfl) rfl _ rfl _ rfl
    clear hsz hdep hout hlat
    go_simp
    exact hK _ _ (hJ.nx hls hT rfl rfl hJ.st (no_head rfl))
   ·have q27 := hJ.iq hT (hdep ⟨2, .data⟩ (by simp) rfl) rfl _ rfl _ rfl
    have cc : w3.cell? ⟨P, 0, none⟩ = some (.slice (some ⟨ab, ofs, none⟩) n capp) := by rw [(PBX.out.ext hJ.st).blk.cell]; simp [HN.out, HERV.out]
    clear hsz hdep hout hlat
    go_simp
    exact hK _ _ (hJ.nx hls hT rfl rfl hJ.st (no_head rfl))
   ·have q7 := hout 7 (outB_spec (by kernel_rfl))
    refine wp_mv _ rfl (hK _ _ ?_)
    rw [show a.eval (.tmp 7) = .int .i64 i from q7]
    exact hJ.nx hls hT rfl rfl hJ.st (no_head rfl)
   ·have q28 := hJ.iq hT (hdep ⟨3, .data⟩ (by simp) rfl) rfl _ rfl _ rfl
    have q29 := hJ.iq hT (hdep ⟨4, .data⟩ (by simp) rfl) rfl _ rfl _ rfl
    clear hsz hdep hout hlat
    go_simp
    exact hK _ _ (hJ.nx hls hT rfl rfl hJ.st (no_head rfl))
   ·have q30 := hJ.iq hT (hdep ⟨5, .data⟩ (by simp) rfl) rfl _ rfl _ rfl
    clear hsz hdep hout hlat
    go_simp
    exact hK _ _ (hJ.nx hls hT rfl rfl hJ.st (no_head rfl))
   ·have q31 := hJ.is hT (hdep ⟨6, .data⟩ (by simp) rfl) rfl _ rfl _ rfl
    exact ld_vid9 _ ab (ofs + i * 42) x XOK.out rfl q31 (fun j u hu => (Below.cell (p := ⟨ab, ofs + i * 42 + j, none⟩) hJ.st HAB.out).trans (XR.out j u hu)) (hK _ _ (hJ.nx hls hT rfl rfl hJ.st (no_head rfl)))
   ·have q3 := hout 3 (outB_spec (by kernel_rfl))
    rw [Array.getD_eq_getD_getElem?] at q3
    clear hsz hdep hout hlat
    go_simp
    exact hK _ _ (hJ.nx hls hT rfl rfl hJ.st (no_head rfl))
   ·have q33 := hJ.is hT (hdep ⟨8, .data⟩ (by simp) rfl) rfl _ rfl _ rfl
    exact ld_qid _ B q rfl q33 (Q1.out.ext hJ.st) (hK _ _ (hJ.nx hls hT rfl rfl hJ.st (no_head rfl)))
   have q32 := hJ.is hT (hdep ⟨7, .data⟩ (by simp) rfl) rfl _ rfl _ rfl
   have q34 := hJ.is hT (hdep ⟨9, .data⟩ (by simp) rfl) rfl _ rfl _ rfl
   exact wp_eql_id _ _ _ rfl x.id q.id XOK.out.idN HQI.out.ok.idN q32 q34 (hK _ _ (hJ.nx hls hT rfl rfl hJ.st (no_head rfl)))
  intro listed f w3 hall hJ
  have f10 : f 10 = .bool (decide (x.id = q.id)) := by
   have h := hJ.vals 10 (hall 10 (by simp))
   rw [hT] at h; exact h
  have hst := hJ.st
  simp only [putAll, Act.put, List.setIfInBounds_toArray, List.set_cons_zero, List.set_cons_succ, Nat.zero_add, Nat.reduceAdd]
  have xx : Ex wr w3 := hst
  rw [f10]
  clear f10
  clear hJ hall hT
  clear hst hS0
  replace PBX := Hi (PBX.out.ext xx)
  replace XR : Hid (w3.rangeAt ab (ofs + i * 42) x.C) := Hi (fun j u hu => (Below.cell (p := ⟨ab, ofs + i * 42 + j, none⟩) xx HAB.out).trans (XR.out j u hu))
  replace HAB := Hi (Nat.lt_of_lt_of_le HAB.out (Below.size xx))
  replace Q1 := Hi (Q1.out.ext xx)
  replace BX := Hi (Ex.trans BX.out xx)
  clear xx c0
  by_cases hxi : x.id = q.id
  ·rw [decide_eq_true hxi]
   have HXI := Hi hxi
   clear hxi
   go_wp2_with fail
   have hS0 : ∀ (listed : Array Bool) (f : Nat → Value), (∀ i, listed.getD i false = false) → Ex w3 w3.drew := fun _ _ _ => (Below.refl w3.heap.size w3).drew
   obtain ⟨T, hT⟩ : ∃ T : List (Value → Prop), T = [(fun zz => zz = .pointer (some ⟨P, 0, none⟩)), (fun zz => zz = .pointer (some ⟨P, 0, none⟩)), (fun zz => zz = .pointer (some ⟨P, 0, none⟩)), (fun zz => zz = .slice (some ⟨ab, ofs, none⟩) n capp), (fun zz => zz = .int .i64 i), (fun zz => zz = .pointer (some ⟨ab, ofs + i * 42, none⟩)), (fun zz => zz = .pointer (some ⟨ab, ofs + i * 42, none⟩)), (fun zz => zz = digV x.id), (fun zz => zz = .int .i64 (Sm.shV x.id)), (fun zz => zz = .pointer (some ⟨B, 1, none⟩)), (fun zz => zz = digV q.id), (fun zz => zz = .int .i64 (Sm.shV q.id)), (fun zz => zz = .bool (decide (Sm.shV x.id = Sm.shV q.id)))] := ⟨_, rfl⟩
   refine wp_region_gen (JS T ([] : List (Nat × Nat)) (fun _ _ w => Ex w3 w)) (by kernel_rfl) (by kernel_rfl) (by kernel_rfl) (fitB_spec (by kernel_rfl)) (fun listed f h => JS.start listed f h (hS0 listed f h)) ?_ ?_
   ·intro i o ho
    have hi : i < 13 := (Array.getElem?_eq_some_iff.1 ho).1
    have hi' : i = 0 ∨ i = 1 ∨ i = 2 ∨ i = 3 ∨ i = 4 ∨ i = 5 ∨ i = 6 ∨ i = 7 ∨ i = 8 ∨ i = 9 ∨ i = 10 ∨ i = 11 ∨ i = 12 := by omega
    clear hi
    rcases hi' with rfl | rfl | rfl | rfl | rfl | rfl | rfl | rfl | rfl | rfl | rfl | rfl | rfl
    all_goals (simp only [List.getElem?_toArray, List.getElem?_cons_zero, List.getElem?_cons_succ, Option.some.injEq] at ho; subst ho; intro listed f a w4 hJ hsz hls hun hdep hout hlat; first | (rw [if_pos (by rfl)]; intro K hK) | skip)
    ·have q0 := hout 0 (outB_spec (by kernel_rfl))
     refine wp_mv _ rfl (hK _ _ ?_)
     rw [show a.eval (.tmp 0) = .pointer (some ⟨P, 0, none⟩) from q0]
     exact hJ.nx hls hT rfl rfl hJ.st (no_head rfl)
    ·have q37 := hJ.iq hT (hdep ⟨0, .data⟩ (by simp) rfl) rfl _ rfl _ rfl
     clear hsz hdep hout hlat
     go_simp
     exact hK _ _ (hJ.nx hls hT rfl rfl hJ.st (no_head rfl))
    ·have q38 := hJ.iq hT (hdep ⟨1, .data⟩ (by simp) rfl) rfl _ rfl _ rfl
     clear hsz hdep hout hlat
     go_simp
     exact hK _ _ (hJ.nx hls hT rfl rfl hJ.st (no_head rfl))
    ·have q39 := hJ.iq hT (hdep ⟨2, .data⟩ (by simp) rfl) rfl _ rfl _ rfl
     have cc : w4.cell? ⟨P, 0, none⟩ = some (.slice (some ⟨ab, ofs, none⟩) n capp) := by rw [(PBX.out.ext hJ.st).blk.cell]; simp [HN.out, HERV.out]
     clear hsz hdep hout hlat
     go_simp
     exact hK _ _ (hJ.nx hls hT rfl rfl hJ.st (no_head rfl))
    ·have q7 := hout 7 (outB_spec (by kernel_rfl))
     refine wp_mv _ rfl (hK _ _ ?_)
     rw [show a.eval (.tmp 7) = .int .i64 i from q7]
     exact hJ.nx hls hT rfl rfl hJ.st (no_head rfl)
    ·have q40 := hJ.iq hT (hdep ⟨3, .data⟩ (by simp) rfl) rfl _ rfl _ rfl
     have q41 := hJ.iq hT (hdep ⟨4, .data⟩ (by simp) rfl) rfl _ rfl _ rfl
     clear hsz hdep hout hlat
     go_simp
     exact hK _ _ (hJ.nx hls hT rfl rfl hJ.st (no_head rfl))
    ·have q42 := hJ.iq hT (hdep ⟨5, .data⟩ (by simp) rfl) rfl _ rfl _ rfl
     clear hsz hdep hout hlat
     go_simp
     exact hK _ _ (hJ.nx hls hT rfl rfl hJ.st (no_head rfl))
    ·have q43 := hJ.is hT (hdep ⟨6, .data⟩ (by simp) rfl) rfl _ rfl _ rfl
     exact ld_vid9 _ ab (ofs + i * 42) x XOK.out rfl q43 (fun j u hu => (Below.cell (p := ⟨ab, ofs + i * 42 + j, none⟩) hJ.st HAB.out).trans (XR.out j u hu)) (hK _ _ (hJ.nx hls hT rfl rfl hJ.st (no_head rfl)))
    ·have q44 := hJ.iq hT (hdep ⟨7, .data⟩ (by simp) rfl) rfl _ rfl _ rfl
     clear hsz hdep hout hlat
     go_simp
     refine (Sm.rof_any x.id XOK.out.idN w4).mono ?_
     rintro e wq ⟨rfl, xq⟩
     exact hK _ _ (hJ.nx hls hT rfl rfl (Ex.trans hJ.st xq) (no_head rfl))
    ·have q3 := hout 3 (outB_spec (by kernel_rfl))
     rw [Array.getD_eq_getD_getElem?] at q3
     clear hsz hdep hout hlat
     go_simp
     exact hK _ _ (hJ.nx hls hT rfl rfl hJ.st (no_head rfl))
    ·have q46 := hJ.is hT (hdep ⟨9, .data⟩ (by simp) rfl) rfl _ rfl _ rfl
     exact ld_qid _ B q rfl q46 (Q1.out.ext hJ.st) (hK _ _ (hJ.nx hls hT rfl rfl hJ.st (no_head rfl)))
    ·have q47 := hJ.iq hT (hdep ⟨10, .data⟩ (by simp) rfl) rfl _ rfl _ rfl
     clear hsz hdep hout hlat
     go_simp
     refine (Sm.rof_any q.id HQI.out.ok.idN w4).mono ?_
     rintro e wq ⟨rfl, xq⟩
     exact hK _ _ (hJ.nx hls hT rfl rfl (Ex.trans hJ.st xq) (no_head rfl))
    have q45 := hJ.is hT (hdep ⟨8, .data⟩ (by simp) rfl) rfl _ rfl _ rfl
    have q48 := hJ.is hT (hdep ⟨11, .data⟩ (by simp) rfl) rfl _ rfl _ rfl
    exact wp_eql_i64 _ _ _ rfl (Sm.shV x.id) (Sm.shV q.id) q45 q48 (hK _ _ (hJ.nx hls hT rfl rfl hJ.st (no_head rfl)))
   intro listed f w4 hall hJ
   have f12 : f 12 = .bool (decide (Sm.shV x.id = Sm.shV q.id)) := by
    have h := hJ.vals 12 (hall 12 (by simp))
    rw [hT] at h; exact h
   have hst := hJ.st
   simp only [putAll, Act.put, List.setIfInBounds_toArray, List.set_cons_zero, List.set_cons_succ, Nat.zero_add, Nat.reduceAdd]
   have xx : Ex w3 w4 := hst
   rw [f12]
   clear f12
   clear hJ hall hT
   clear hst hS0
   replace BX := Hi (Ex.trans BX.out xx)
   clear xx XR HAB Q1 PBX
   have hct := cnt_step (id := q.id) HX.out
   have hcl : cntS (xs.take i) q.id ≤ i := by unfold cntS; exact Nat.le_trans List.countP_le_length (by rw [List.length_take]; omega)
   by_cases hs : Sm.shV x.id = Sm.shV q.id
   ·rw [decide_eq_true hs]
    rw [if_pos hs] at hct
    go_wp2_with fail
    go_roundw
    case rel => exact ⟨i + 1, (i : Int), by omega, by go_num, rfl, by first | (rw [hct]; done) | (rw [hct]; go_num) | (rw [hct]; push_cast; rfl), Hi (Or.inr ⟨i, x, rfl, by omega, HX.out, HXI.out⟩), BX⟩
    case measure => simp [intOf]; omega
   rw [decide_eq_false hs]
   rw [if_neg hs] at hct
   go_wp2_with fail
   go_roundw
   case rel => exact ⟨i + 1, (i : Int), by omega, by go_num, rfl, by first | (rw [hct]; done) | (rw [hct]; go_num) | (rw [hct]; push_cast; rfl), Hi (Or.inr ⟨i, x, rfl, by omega, HX.out, HXI.out⟩), BX⟩
   case measure => simp [intOf]; omega
  rw [decide_eq_false hxi]
  have HXI := Hi hxi
  clear hxi
  go_wp2_with fail
  have hS0 : ∀ (listed : Array Bool) (f : Nat → Value), (∀ i, listed.getD i false = false) → Ex w3 w3.drew := fun _ _ _ => (Below.refl w3.heap.size w3).drew
  obtain ⟨T, hT⟩ : ∃ T : List (Value → Prop), T = [(fun zz => zz = .pointer (some ⟨P, 0, none⟩)), (fun zz => zz = .pointer (some ⟨P, 0, none⟩)), (fun zz => zz = .pointer (some ⟨P, 0, none⟩)), (fun zz => zz = .slice (some ⟨ab, ofs, none⟩) n capp), (fun zz => zz = .int .i64 i), (fun zz => zz = .pointer (some ⟨ab, ofs + i * 42, none⟩)), (fun zz => zz = .pointer (some ⟨ab, ofs + i * 42, none⟩)), (fun zz => zz = digV x.id), (fun zz => zz = .int .i64 (Sm.shV x.id)), (fun zz => zz = .pointer (some ⟨B, 1, none⟩)), (fun zz => zz = digV q.id), (fun zz => zz = .int .i64 (Sm.shV q.id)), (fun zz => zz = .bool (decide (Sm.shV x.id = Sm.shV q.id)))] := ⟨_, rfl⟩
  refine wp_region_gen (JS T ([] : List (Nat × Nat)) (fun _ _ w => Ex w3 w)) (by kernel_rfl) (by kernel_rfl) (by kernel_rfl) (fitB_spec (by kernel_rfl)) (fun listed f h => JS.start listed f h (hS0 listed f h)) ?_ ?_
  ·intro i o ho
   have hi : i < 13 := (Array.getElem?_eq_some_iff.1 ho).1
   have hi' : i = 0 ∨ i = 1 ∨ i = 2 ∨ i = 3 ∨ i = 4 ∨ i = 5 ∨ i = 6 ∨ i = 7 ∨ i = 8 ∨ i = 9 ∨ i = 10 ∨ i = 11 ∨ i = 12 := by omega
   clear hi
   rcases hi' with rfl | rfl | rfl | rfl | rfl | rfl | rfl | rfl | rfl | rfl | rfl | rfl | rfl
   all_goals (simp only [List.getElem?_toArray, List.getElem?_cons_zero, List.getElem?_cons_succ, Option.some.injEq] at ho; subst ho; intro listed f a w4 hJ hsz hls hun hdep hout hlat; first | (rw [if_pos (by rfl)]; intro K hK) | skip)
   ·have q0 := hout 0 (outB_spec (by kernel_rfl))
    refine wp_mv _ rfl (hK _ _ ?_)
    rw [show a.eval (.tmp 0) = .pointer (some ⟨P, 0, none⟩) from q0]
    exact hJ.nx hls hT rfl rfl hJ.st (no_head rfl)
   ·have q37 := hJ.iq hT (hdep ⟨0, .data⟩ (by simp) rfl) rfl _ rfl _ rfl
    clear hsz hdep hout hlat
    go_simp
    exact hK _ _ (hJ.nx hls hT rfl rfl hJ.st (no_head rfl))
   ·have q38 := hJ.iq hT (hdep ⟨1, .data⟩ (by simp) rfl) rfl _ rfl _ rfl
    clear hsz hdep hout hlat
    go_simp
    exact hK _ _ (hJ.nx hls hT rfl rfl hJ.st (no_head rfl))
   ·have q39 := hJ.iq hT (hdep ⟨2, .data⟩ (by simp) rfl) rfl _ rfl _ rfl
    have cc : w4.cell? ⟨P, 0, none⟩ = some (.slice (some ⟨ab, ofs, none⟩) n capp) := by rw [(PBX.out.ext hJ.st).blk.cell]; simp [HN.out, HERV.out]
    clear hsz hdep hout hlat
    go_simp
    exact hK _ _ (hJ.nx hls hT rfl rfl hJ.st (no_head rfl))
   ·have q7 := hout 7 (outB_spec (by kernel_rfl))
    refine wp_mv _ rfl (hK _ _ ?_)
    rw [show a.eval (.tmp 7) = .int .i64 i from q7]
    exact hJ.nx hls hT rfl rfl hJ.st (no_head rfl)
   ·have q40 := hJ.iq hT (hdep ⟨3, .data⟩ (by simp) rfl) rfl _ rfl _ rfl
    have q41 := hJ.iq hT (hdep ⟨4, .data⟩ (by simp) rfl) rfl _ rfl _ rfl
    clear hsz hdep hout hlat
    go_simp
    exact hK _ _ (hJ.nx hls hT rfl rfl hJ.st (no_head rfl))
   ·have q42 := hJ.iq hT (hdep ⟨5, .data⟩ (by simp) rfl) rfl _ rfl _ rfl
    clear hsz hdep hout hlat
    go_simp
    exact hK _ _ (hJ.nx hls hT rfl rfl hJ.st (no_head rfl))
   ·have q43 := hJ.is hT (hdep ⟨6, .data⟩ (by simp) rfl) rfl _ rfl _ rfl
    exact ld_vid9 _ ab (ofs + i * 42) x XOK.out rfl q43 (fun j u hu => (Below.cell (p := ⟨ab, ofs + i * 42 + j, none⟩) hJ.st HAB.out).trans (XR.out j u hu)) (hK _ _ (hJ.nx hls hT rfl rfl hJ.st (no_head rfl)))
   ·have q44 := hJ.iq hT (hdep ⟨7, .data⟩ (by simp) rfl) rfl _ rfl _ rfl
    clear hsz hdep hout hlat
    go_simp
    refine (Sm.rof_any x.id XOK.out.idN w4).mono ?_
    rintro e wq ⟨rfl, xq⟩
    exact hK _ _ (hJ.nx hls hT rfl rfl (Ex.trans hJ.st xq) (no_head rfl))
   ·have q3 := hout 3 (outB_spec (by kernel_rfl))
    rw [Array.getD_eq_getD_getElem?] at q3
    clear hsz hdep hout hlat
    go_simp
    exact hK _ _ (hJ.nx hls hT rfl rfl hJ.st (no_head rfl))
   ·have q46 := hJ.is hT (hdep ⟨9, .data⟩ (by simp) rfl) rfl _ rfl _ rfl
    exact ld_qid _ B q rfl q46 (Q1.out.ext hJ.st) (hK _ _ (hJ.nx hls hT rfl rfl hJ.st (no_head rfl)))
   ·have q47 := hJ.iq hT (hdep ⟨10, .data⟩ (by simp) rfl) rfl _ rfl _ rfl
    clear hsz hdep hout hlat
    go_simp
    refine (Sm.rof_any q.id HQI.out.ok.idN w4).mono ?_
    rintro e wq ⟨rfl, xq⟩
    exact hK _ _ (hJ.nx hls hT rfl rfl (Ex.trans hJ.st xq) (no_head rfl))
   have q45 := hJ.is hT (hdep ⟨8, .data⟩ (by simp) rfl) rfl _ rfl _ rfl
   have q48 := hJ.is hT (hdep ⟨11, .data⟩ (by simp) rfl) rfl _ rfl _ rfl
   exact wp_eql_i64 _ _ _ rfl (Sm.shV x.id) (Sm.shV q.id) q45 q48 (hK _ _ (hJ.nx hls hT rfl rfl hJ.st (no_head rfl)))
  intro listed f w4 hall hJ
  have f12 : f 12 = .bool (decide (Sm.shV x.id = Sm.shV q.id)) := by
   have h := hJ.vals 12 (hall 12 (by simp))
   rw [hT] at h; exact h
  have hst := hJ.st
  simp only [putAll, Act.put, List.setIfInBounds_toArray, List.set_cons_zero, List.set_cons_succ, Nat.zero_add, Nat.reduceAdd]
  have xx : Ex w3 w4 := hst
  rw [f12]
  clear f12
  clear hJ hall hT
  clear hst hS0
  replace BX := Hi (Ex.trans BX.out xx)
  clear xx XR HAB Q1 PBX
  have hct := cnt_step (id := q.id) HX.out
  have hcl : cntS (xs.take i) q.id ≤ i := by unfold cntS; exact Nat.le_trans List.countP_le_length (by rw [List.length_take]; omega)
  by_cases hs : Sm.shV x.id = Sm.shV q.id
  ·rw [decide_eq_true hs]
   rw [if_pos hs] at hct
   go_wp2_with fail
   go_roundw
   case rel => exact ⟨i + 1, k, by omega, by go_num, rfl, by first | (rw [hct]; done) | (rw [hct]; go_num) | (rw [hct]; push_cast; rfl), Hi (by
    rcases HKK.out with ⟨e, h⟩ | ⟨j, y, e, h1, h2⟩
    ·refine Or.inl ⟨e, fun y hy => ?_⟩
     rw [List.take_add_one, HX.out, List.mem_append] at hy
     rcases hy with hy | hy
     ·exact h y hy
     ·simp at hy; rw [hy]; exact HXI.out
    ·exact Or.inr ⟨j, y, e, by omega, h2⟩), BX⟩
   case measure => simp [intOf]; omega
  rw [decide_eq_false hs]
  rw [if_neg hs] at hct
  go_wp2_with fail
  go_roundw
  case rel => exact ⟨i + 1, k, by omega, by go_num, rfl, by first | (rw [hct]; done) | (rw [hct]; go_num) | (rw [hct]; push_cast; rfl), Hi (by
   rcases HKK.out with ⟨e, h⟩ | ⟨j, y, e, h1, h2⟩
   ·refine Or.inl ⟨e, fun y hy => ?_⟩
    rw [List.take_add_one, HX.out, List.mem_append] at hy
    rcases hy with hy | hy
    ·exact h y hy
    ·simp at hy; rw [hy]; exact HXI.out
   ·exact Or.inr ⟨j, y, e, by omega, h2⟩), BX⟩
  case measure => simp [intOf]; omega
 obtain rfl : i = n := by omega
 have q1 : ¬ (i : Int) < (i : Int) := by omega
 have htk : xs.take i = xs := List.take_of_length_le (by rw [← HN.out]; exact Nat.le_refl _)
 rw [htk]
 have HKE := HKK.out
 rw [htk] at HKE
 clear htk HKK
 have BW0 := Hi BW.out
 have BX0 := Hi BX.out
 have HB2 : Hid (B + 1 < w2.heap.size) := Hi R0.out.lt
 replace Q0 := Hi (Q0.out.ext BX.out)
 replace R0 := Hi (R0.out.ext BX.out)
 have BW2 := Hi (Ex.trans BW.out BX.out)
 clear BW
 have BW := BW2
 clear BW2
 obtain ⟨cn, hcn⟩ : ∃ c, c = cntS xs q.id := ⟨_, rfl⟩
 rw [← hcn]
 have HCN := Hi hcn
 clear hcn
 have hgx : ∃ x, GetP xs q.id x k := by
  rcases HKE with ⟨e, hno⟩ | ⟨j, x, e, hj, hx, hxi⟩
  ·exact ⟨zeroVt, Or.inl ⟨e, rfl, hno⟩⟩
  ·exact ⟨x, Or.inr ⟨j, e, hx, hxi⟩⟩
 obtain ⟨x, hgp⟩ := hgx
 have HGP := Hi hgp
 clear HKE hgp BX
 have PXX := Hi (getp_px (HP.out.ext BW.out) HGP.out)
 have KPT := Hi (getp_kept HR.out HGP.out)
 go_upto_region 12 with ((with_reducible refine so0 ?_ ?_); (focus rfl))
 refine at9 (by go_simp) fun K0 hK => wp_build _ _ rfl _ built_zero (hK _ _ ?_)
 clear hK
 go_wp2_with (first | ((with_reducible refine so2 [1000+37] ?_ ?_); (focus rfl)) | (with_reducible refine stop_bs ?_) | (with_reducible refine stop_app ?_))
 refine at9 (by go_simp) fun K0 hK => st_v _ _ wr.heap.size zeroVt rfl rfl rfl zeroVt_ok (Bk.new rfl _ _) (by rfl) (fun w3 hd ho => hK _ _ ?_)
 clear hK
 have x3 : Ex wr w3 := ho.below wr.heap.size (Nat.le_refl _) wr (Ex.alloc wr _)
 replace Q0 := Hi (Q0.out.ext x3)
 replace R0 := Hi (R0.out.ext x3)
 replace BW := Hi (Ex.trans BW.out x3)
 clear x3
 obtain ⟨gx, hg⟩ : ∃ g, g = wr.heap.size := ⟨_, rfl⟩
 rw [← hg] at hd ⊢
 have X0 := Hi hd
 have HBX : Hid (B + 1 < gx) := Hi (by rw [hg]; exact Nat.lt_of_lt_of_le HB2.out (Below.size BX0.out))
 have HGX : Hid (w.heap.size ≤ gx) := Hi (by rw [hg]; exact Below.size (Ex.trans BW0.out BX0.out))
 clear hd ho hg
 go_upto_if 54 with fail
 go_cut [] (fun wd => Hid (VB wd gx x) ∧ Hid (Ex w wd) ∧ Hid (QB wd B q) ∧ Hid (RB wd (B + 1) zeroRt))
 case first =>
  rcases HGP.out with ⟨hk1, hx0, _⟩ | ⟨j, hkj, hxj, _⟩
  ·subst hk1
   subst hx0
   go_wp2_with fail
   go_meet
   case rel => exact ⟨X0, BW, Q0, R0⟩
  subst hkj
  have hjl := (List.getElem?_eq_some_iff.1 hxj).1
  have q2 : (0 : Int) ≤ (j : Int) := by omega
  have q3 : (j : Int) < (i : Int) := by have := HN.out; omega
  have PB3 := Hi (HP.out.ext BW.out)
  have c0 : w3.cell? ⟨P, 0, none⟩ = some (.slice adp i capp) := by rw [PB3.out.blk.cell]; simp [HN.out, HERV.out]
  obtain ⟨ab, ofs, rfl, hab, hra⟩ := (HIN.out.ext BW.out).read (by rw [← HN.out]; omega)
  have XK := Hi (HIN.out.ok j x hxj)
  have XR : Hid (w3.rangeAt ab (ofs + j * 42) x.C) := Hi (hra j x hxj)
  clear hra hab
  go_wp2_with (first | ((with_reducible refine so2 [1000+37] ?_ ?_); (focus rfl)) | (with_reducible refine stop_bs ?_) | (with_reducible refine stop_app ?_))
  refine at9 (by go_simp) fun K0 hK => ld_vr _ ab (ofs + j * 42) x XK.out rfl rfl XR.out (hK _ _ ?_)
  clear hK
  go_wp2_with (first | ((with_reducible refine so2 [1000+37] ?_ ?_); (focus rfl)) | (with_reducible refine stop_bs ?_) | (with_reducible refine stop_app ?_))
  refine at9 (by go_simp) fun K0 hK => st_v _ _ gx x rfl rfl rfl XK.out X0.out.2 (by rw [List.size_toArray, Vt.len X0.out.1]) (fun w4 hd ho => hK _ _ ?_)
  clear hK
  have hgx : Ex w w4 := ho.below w.heap.size HGX.out w BW.out
  have X1 := Hi hd
  have BW1 := Hi hgx
  have Q1 : Hid (QB w4 B q) := Hi (ho.qb Q0.out (by have := HBX.out; omega))
  have R1 : Hid (RB w4 (B + 1) zeroRt) := Hi (ho.rb R0.out (by have := HBX.out; omega))
  clear hd ho hgx
  go_wp2_with fail
  go_meet
  case rel => exact ⟨X1, BW1, Q1, R1⟩
 clear X0 BW Q0 R0
 obtain ⟨X0, BW, Q0, R0⟩ := hcut
 go_wp2_with (first | ((with_reducible refine so2 [1000+37] ?_ ?_); (focus rfl)) | (with_reducible refine stop_bs ?_) | (with_reducible refine stop_app ?_))
 refine at9 (by go_simp) fun K0 hK => ld_v _ _ x rfl rfl X0.out (hK _ _ ?_)
 clear hK
 go_wp2_with (first | ((with_reducible refine so2 [1000+37] ?_ ?_); (focus rfl)) | (with_reducible refine stop_bs ?_) | (with_reducible refine stop_app ?_))
 refine at9 (by go_simp) fun K0 hK => ld_q _ _ q rfl rfl Q0.out (hK _ _ ?_)
 clear hK
 go_wp2_with (first | ((with_reducible refine so2 [1000+37] ?_ ?_); (focus rfl)) | (with_reducible refine stop_bs ?_) | (with_reducible refine stop_app ?_))
 have PX4 := Hi (getp_px (HP.out.ext BW.out) HGP.out)
 refine (rdo_any x q wc (PX4.out.vi (Nat.le_trans HP.out.sz (Below.size BW.out))) (Nat.le_trans PX4.out.len (by decide)) (HQI.out.ext BW.out)).mono ?_
 rintro e w5 ⟨v', r', b, rfl, hdo, hvo, hvs, hro, hrs, x5⟩
 have HDO := Hi hdo
 have HVO := Hi hvo
 have HVS := Hi hvs
 have HRO := Hi hro
 have HRS := Hi (hrs.less BW.out.sz)
 clear hdo hvo hvs hro hrs PX4 PXX
 replace Q0 := Hi (Q0.out.ext x5)
 replace R0 := Hi (R0.out.ext x5)
 replace BW := Hi (Ex.trans BW.out x5)
 clear x5
 clear X0
 go_wp2_with (first | ((with_reducible refine so2 [1000+37] ?_ ?_); (focus rfl)) | (with_reducible refine stop_bs ?_) | (with_reducible refine stop_app ?_))
 refine at9 (by go_simp) fun K0 hK => st_v _ _ w5.heap.size v' rfl rfl rfl HVO.out ((Bk.new rfl _ _).more _) (by rfl) (fun w6 d1 o1 => hK _ _ ?_)
 clear hK
 have Y1 : Hid (Bk w6 (w5.heap.size + 1) 83 zeroRt.C.toArray) := Hi (o1.bk (Bk.new (by simp) _ _) (by omega))
 have D1 := Hi d1
 have O1 := Hi o1
 clear d1 o1
 go_wp2_with (first | ((with_reducible refine so2 [1000+37] ?_ ?_); (focus rfl)) | (with_reducible refine stop_bs ?_) | (with_reducible refine stop_app ?_))
 refine at9 (by go_simp) fun K0 hK => st_r _ _ (w5.heap.size + 1) r' rfl rfl rfl HRO.out Y1.out (by rfl) (fun w7 d2 o2 => hK _ _ ?_)
 clear hK
 obtain ⟨gv, gr, xx⟩ := pair_facts O1.out D1.out o2 d2
 clear D1 O1 Y1 o2 d2
 replace Q0 := Hi (Q0.out.ext xx)
 replace R0 := Hi (R0.out.ext xx)
 replace HRS := Hi (HRS.out.ext xx)
 replace BW := Hi (Ex.trans BW.out xx)
 obtain ⟨g8, hgn⟩ : ∃ g, g = w5.heap.size := ⟨_, rfl⟩
 rw [← hgn] at gv gr ⊢
 have g8S := Hi hgn
 have g8V := Hi gv
 have g8R := Hi gr
 clear gv gr xx hgn
 cases b
 case false =>
  go_wp2_with (first | ((with_reducible refine so2 [1000+37] ?_ ?_); (focus rfl)) | (with_reducible refine stop_bs ?_) | (with_reducible refine stop_app ?_))
  refine at9 (by go_simp) fun K0 hK => ld_r _ _ r' rfl rfl g8R.out (hK _ _ ?_)
  clear hK
  go_wp2_with (first | ((with_reducible refine so2 [1000+37] ?_ ?_); (focus rfl)) | (with_reducible refine stop_bs ?_) | (with_reducible refine stop_app ?_))
  refine at9 (by go_simp) fun K0 hK => st_r _ _ (B + 1) r' rfl rfl rfl HRO.out R0.out.2 (by rw [List.size_toArray, Rt.len R0.out.1]) (fun wz hd ho => hK _ _ ?_)
  clear hK
  have hkt : Kt [83] w0.heap.size w7 wz := Kt.md ho.md (by have h1 := HP.out.lo; have h2 := HPL.out; have := HB.out; omega) R0.out.2 (List.mem_singleton.2 rfl)
  have HPZ := Hi ((HP.out.ext BW.out).kt hkt (by decide) (by decide) (by decide))
  have HPN := Hi (show PN wz w.heap.size (r').sec from PN.onlyT (HRS.out) ho R0.out.2 (by decide))
  have BZ := Hi (ho.below w.heap.size (by rw [← HB.out]; omega) w BW.out)
  have HD := Hi hd
  clear hd ho hkt
  go_wp2_with fail
  exact bodyPost_ret (res_r rfl _ _ (B + 1) rfl (r') HD.out) rfl ⟨r', rv, xs, rfl, HD.out.1, HPN.out, HPZ.out, Or.inr ⟨HRQ.out.symm, x, k, HGP.out, KPT.out, Or.inl ⟨(congrArg (fun c => c.2.2) HDO.out).symm, (congrArg (fun c => c.2.1) HDO.out), rfl⟩⟩, Ex.md BZ.out (Nat.le_of_lt HPL.out), Or.inl rfl⟩
 have PBX := Hi (HP.out.ext BW.out)
 obtain ⟨ad, cap, erv, hin, hcap⟩ := PBX.out.inn
 obtain ⟨ad2, cap2, erv2, hnil, hcap2, hcm, hrd⟩ := own_rd PBX.out.row
 rw [erv] at erv2
 cases erv2
 have RX := Hi (And.intro hnil (And.intro hcap2 hrd))
 have ERV := Hi erv
 have c0 : w7.cell? ⟨P, 0, none⟩ = some (.slice ad xs.length cap) := by rw [PBX.out.blk.cell, ← erv]; rfl
 clear hin hcap hnil hcap2 hcm hrd erv
 have DC1 := Hi (congrArg (fun c => c.1) HDO.out)
 have DC2 := Hi (congrArg (fun c => c.2.1) HDO.out)
 have DC3 := Hi (congrArg (fun c => c.2.2) HDO.out)
 have VRT := Hi (doC_changed HRQ.out.symm KPT.out DC3.out.symm)
 have h0sz := HP.out.sz
 have hPlt := HPL.out
 have HLO := Hi HP.out.lo
 have PXV : Hid (PX w0 w7 v') := Hi (by
  refine ⟨HVO.out, ?_, ?_⟩
  ·rcases HVS.out with e | e | e
   ·rw [e]; exact (getp_px PBX.out HGP.out).sec
   ·rw [e]; exact HQS.out.ext HP.out.sz BW.out
   ·rw [e]; exact Or.inr (nilB_pn _ _)
  ·have h1 := VRT.out.1
   rw [← show v'.ct = _ from DC1.out] at h1
   exact (Vc.right_sec h1).1)
 rcases HGP.out with ⟨hk1, hx0, hno⟩ | ⟨j, hkj, hxj, hxid⟩
 rotate_left
 ·subst hkj
  have q2 : ¬ (j : Int) < 0 := by omega
  have hjl := (List.getElem?_eq_some_iff.1 hxj).1
  have q3 : (0 : Int) ≤ (j : Int) := by omega
  have q4 : (j : Int) < (xs.length : Int) := by omega
  replace c0 : (w7.alloc (.cells #[] 36)).cell? ⟨P, 0, none⟩ = some (.slice ad xs.length cap) := by rw [(PBX.out.ext (Ex.alloc w7 _)).blk.cell, ← ERV.out]; rfl
  go_wp2_with (first | ((with_reducible refine so2 [1000+37] ?_ ?_); (focus rfl)) | (with_reducible refine stop_app ?_))
  (with_reducible refine ⟨?_⟩)
  change wpList _ _ _ _ _ (w7.alloc (.cells #[] 36))
  have xa : Ex w7 (w7.alloc (.cells #[] 36)) := Ex.alloc w7 _
  have EM : Hid (Emp w.heap.size (w7.alloc (.cells #[] 36)) 36 (.slice (some ⟨w7.heap.size, 0, none⟩) 0 0)) := Hi ⟨_, rfl, Below.size BW.out, Bk.new rfl _ _⟩
  replace RX := Hi (And.intro RX.out.1 (And.intro RX.out.2.1 (RX.out.2.2.ext xa)))
  replace g8V := Hi (g8V.out.ext xa)
  replace g8R := Hi (g8R.out.ext xa)
  replace HRS := Hi (HRS.out.ext xa)
  replace PBX := Hi (PBX.out.ext xa)
  replace PXV : Hid (PX w0 (w7.alloc (.cells #[] 36)) v') := Hi ⟨PXV.out.ok, PXV.out.sec.ext (Nat.le_trans HP.out.sz (Below.size BW.out)) xa, PXV.out.len⟩
  replace Q0 := Hi (Q0.out.ext xa)
  replace R0 := Hi (R0.out.ext xa)
  replace BW := Hi (Ex.trans BW.out xa)
  clear xa
  generalize hw8 : (w7.alloc (.cells #[] 36)) = w8 at *
  obtain ⟨ge, hge⟩ : ∃ g, g = w7.heap.size := ⟨_, rfl⟩
  rw [← hge] at EM ⊢
  clear hw8 c0 hge
  (with_reducible refine at_any ?_ ?_); (focus go_simp); refine fun K0 hK => wp_rd0 _ _ 37 36 zeroVt.V 42 96 rfl Try.underlying37 Try.infoVt rfl (by decide) w.heap.size _ rfl EM.out (Below.size BW.out) ad xs.length cap (xs.flatMap Vt.C) rfl RX.out.2.2 RX.out.2.1 RX.out.1 (vflat_one xs) (by have := HL.out; omega) (by have := HL.out; omega) (fun v5 w9 r1 x9 => hK _ _ ?_)
  clear hK
  have RW := Hi r1
  replace g8V := Hi (g8V.out.ext x9)
  replace g8R := Hi (g8R.out.ext x9)
  replace HRS := Hi (HRS.out.ext x9)
  replace PXV : Hid (PX w0 w9 v') := Hi ⟨PXV.out.ok, PXV.out.sec.ext (Nat.le_trans HP.out.sz (Below.size BW.out)) x9, PXV.out.len⟩
  replace PBX := Hi (PBX.out.ext x9)
  clear r1 EM RX
  replace Q0 := Hi (Q0.out.ext x9)
  replace R0 := Hi (R0.out.ext x9)
  replace BW := Hi (Ex.trans BW.out x9)
  clear x9
  go_wp2_with (first | ((with_reducible refine so2 [1000+37] ?_ ?_); (focus rfl)) | (with_reducible refine stop_app ?_))
  refine at9 (by go_simp) fun K0 hK => wp_st1 (C := [rv]) _ _ P 0 v5 rfl rfl rfl PBX.out.blk (by simp) (by kernel_rfl) (own_sl RW.out).1 (fun w10 hd ho => hK _ _ ?_)
  clear hK
  skip
  have kt9 : Kt [147] w0.heap.size w9 w10 := Kt.md ho.md HLO.out PBX.out.blk (List.mem_singleton.2 rfl)
  have F1 : Hid (F12 w0 w P (B + 1) (g8 + 1) r' v5 xs w10) := Hi ⟨hd, kt9.row RW.out (by decide), fun x hx => by
   obtain ⟨i, hi, e⟩ := List.getElem_of_mem hx
   exact (PBX.out.ins i x (by rw [List.getElem?_eq_getElem hi, e])).kt kt9 (by decide), ⟨g8R.out.1, kt9.bk g8R.out.2 (by decide)⟩, HRS.out.kt kt9 (by decide), ⟨R0.out.1, kt9.bk R0.out.2 (by decide)⟩, (Ex.md BW.out (Nat.le_of_lt hPlt)).trans ho.md⟩
  replace g8V : Hid (VB w10 g8 v') := Hi ⟨g8V.out.1, kt9.bk g8V.out.2 (by decide)⟩
  replace PXV := Hi (PXV.out.kt kt9 (by decide))
  obtain ⟨ad5, cap5, e5⟩ := (own_sl RW.out).2
  subst e5
  have c1 : w10.cell? ⟨P, 0, none⟩ = some (.slice ad5 xs.length cap5) := by rw [F1.out.blk.cell]; rfl
  clear hd ho kt9 PBX RW R0 g8R HRS BW Q0
  go_wp2_with fail
  obtain ⟨gr, capr, C, er, hbr, hlr, hsetr⟩ := F1.out.set hPlt h0sz j hjl
  cases er
  have HSR := Hi hsetr
  have HBR := Hi hbr
  clear hsetr hbr
  have F12s : Hid (∀ wz, Ex w10 wz → ∀ wst, Bk wst gr 36 (C.take (j * 42) ++ v'.C ++ C.drop (j * 42 + v'.C.length)).toArray → Only gr wz wst → F12 w0 w P (B + 1) (g8 + 1) r' (.slice (some ⟨gr, 0, none⟩) xs.length cap5) (xs.set j v') wst) := Hi (fun wz xx wst hd ho => by
   obtain ⟨g2, cap2, C2, e2, hb2, hl2, hs2⟩ := (F1.out.ext xx hPlt h0sz).set hPlt h0sz j hjl
   cases e2
   have hC : C2 = C := by
    have h1 := HBR.out.ext xx
    unfold Bk at h1 hb2
    rw [h1] at hb2
    have h3 := (Obj.cells.inj (Option.some.inj hb2)).1
    simpa using h3.symm
   subst hC
   exact hs2 v' (by have := F1.out.md.size; exact ⟨PXV.out.ok, PXV.out.sec.ext (by omega) xx, PXV.out.len⟩) wst hd ho)
  have hS0 : ∀ (listed : Array Bool) (_ : Nat → Value), (∀ i, listed.getD i false = false) → St12 w0 w w10 P (B + 1) (g8 + 1) r' (.slice (some ⟨gr, 0, none⟩) xs.length cap5) (xs.set j v') (listed.getD 7 false) w10.drew := fun listed _ h0 => by rw [h0 7]; exact ⟨fun _ => (Below.refl w10.heap.size w10).drew, fun e => by cases e⟩
  obtain ⟨T, hT⟩ : ∃ T : List (Value → Prop), T = [(fun zz => zz = .pointer (some ⟨P, 0, none⟩)), (fun zz => zz = .pointer (some ⟨P, 0, none⟩)), (fun zz => zz = .pointer (some ⟨P, 0, none⟩)), (fun zz => zz = .slice (some ⟨gr, 0, none⟩) xs.length cap5), (fun zz => zz = .int .i64 j), (fun zz => zz = v'.V), (fun zz => zz = .pointer (some ⟨gr, j * 42, none⟩)), (fun _ => True)] := ⟨_, rfl⟩
  refine wp_region_gen (JS T ([(7, 6), (7, 5), (6, 3)] : List (Nat × Nat)) (fun l _ wq => St12 w0 w w10 P (B + 1) (g8 + 1) r' (.slice (some ⟨gr, 0, none⟩) xs.length cap5) (xs.set j v') (l.getD 7 false) wq)) (by kernel_rfl) (by kernel_rfl) (by kernel_rfl) (fitB_spec (by kernel_rfl)) (fun listed f h => JS.start listed f h (hS0 listed f h)) ?_ ?_
  ·intro i o ho
   have hi : i < 8 := (Array.getElem?_eq_some_iff.1 ho).1
   have hi' : i = 0 ∨ i = 1 ∨ i = 2 ∨ i = 3 ∨ i = 4 ∨ i = 5 ∨ i = 6 ∨ i = 7 := by omega
   clear hi
   rcases hi' with rfl | rfl | rfl | rfl | rfl | rfl | rfl | rfl
   all_goals (simp only [List.getElem?_toArray, List.getElem?_cons_zero, List.getElem?_cons_succ, Option.some.injEq] at ho; subst ho; intro listed f a wz hJ hsz hls hun hdep hout hlat; first | (rw [if_pos (by rfl)]; intro K hK) | skip)
   ·have q0 := hout 0 (outB_spec (by kernel_rfl))
    rw [Array.getD_eq_getD_getElem?] at q0
    clear hsz hdep hout hlat
    go_simp
    exact hK _ _ (hJ.nx hls hT rfl rfl (by show St12 w0 w w10 P (B + 1) (g8 + 1) r' (.slice (some ⟨gr, 0, none⟩) xs.length cap5) (xs.set j v') ((listed.setIfInBounds 0 true).getD 7 false) _; rw [gset (by decide) false]; exact hJ.st) (no_head rfl))
   ·have q112 := hJ.iq hT (hdep ⟨0, .data⟩ (by simp) rfl) rfl _ rfl _ rfl
    clear hsz hdep hout hlat
    go_simp
    exact hK _ _ (hJ.nx hls hT rfl rfl (by show St12 w0 w w10 P (B + 1) (g8 + 1) r' (.slice (some ⟨gr, 0, none⟩) xs.length cap5) (xs.set j v') ((listed.setIfInBounds 1 true).getD 7 false) _; rw [gset (by decide) false]; exact hJ.st) (no_head rfl))
   ·have q113 := hJ.iq hT (hdep ⟨1, .data⟩ (by simp) rfl) rfl _ rfl _ rfl
    clear hsz hdep hout hlat
    go_simp
    exact hK _ _ (hJ.nx hls hT rfl rfl (by show St12 w0 w w10 P (B + 1) (g8 + 1) r' (.slice (some ⟨gr, 0, none⟩) xs.length cap5) (xs.set j v') ((listed.setIfInBounds 2 true).getD 7 false) _; rw [gset (by decide) false]; exact hJ.st) (no_head rfl))
   ·have q114 := hJ.iq hT (hdep ⟨2, .data⟩ (by simp) rfl) rfl _ rfl _ rfl
    have hl7 : listed.getD 7 false = false := by
     cases hc : listed.getD 7 false with
     | false => rfl
     | true =>
      have hc1 := hJ.ord (7, 6) (by simp) hc
      have hc2 := hJ.ord (6, 3) (by simp) hc1
      exact absurd hc2 (by rw [hun]; decide)
    have cc : wz.cell? ⟨P, 0, none⟩ = some (.slice (some ⟨gr, 0, none⟩) xs.length cap5) := by rw [(F1.out.blk.ext ((hJ.st).1 hl7)).cell]; rfl
    clear hsz hdep hout hlat
    go_simp
    exact hK _ _ (hJ.nx hls hT rfl rfl (by show St12 w0 w w10 P (B + 1) (g8 + 1) r' (.slice (some ⟨gr, 0, none⟩) xs.length cap5) (xs.set j v') ((listed.setIfInBounds 3 true).getD 7 false) _; rw [gset (by decide) false]; exact hJ.st) (no_head rfl))
   ·have q5 := hout 5 (outB_spec (by kernel_rfl))
    rw [Array.getD_eq_getD_getElem?] at q5
    clear hsz hdep hout hlat
    go_simp
    exact hK _ _ (hJ.nx hls hT rfl rfl (by show St12 w0 w w10 P (B + 1) (g8 + 1) r' (.slice (some ⟨gr, 0, none⟩) xs.length cap5) (xs.set j v') ((listed.setIfInBounds 4 true).getD 7 false) _; rw [gset (by decide) false]; exact hJ.st) (no_head rfl))
   ·have q9 := hout 9 (outB_spec (by kernel_rfl))
    have hl7 : listed.getD 7 false = false := by
     cases hc : listed.getD 7 false with
     | false => rfl
     | true =>
      have hc1 := hJ.ord (7, 5) (by simp) hc
      exact absurd hc1 (by rw [hun]; decide)
    exact ld_v _ g8 v' rfl q9 (g8V.out.ext ((hJ.st).1 hl7)) (hK _ _ (hJ.nx hls hT rfl rfl (by show St12 w0 w w10 P (B + 1) (g8 + 1) r' (.slice (some ⟨gr, 0, none⟩) xs.length cap5) (xs.set j v') ((listed.setIfInBounds 5 true).getD 7 false) _; rw [gset (by decide) false]; exact hJ.st) (no_head rfl)))
   ·have q115 := hJ.iq hT (hdep ⟨3, .data⟩ (by simp) rfl) rfl _ rfl _ rfl
    have q116 := hJ.iq hT (hdep ⟨4, .data⟩ (by simp) rfl) rfl _ rfl _ rfl
    have hl3 := (hdep ⟨3, .data⟩ (by simp) rfl).1
    have hord : ∀ x ∈ ([(7, 6), (7, 5), (6, 3)] : List (Nat × Nat)), x.1 = 6 → listed.getD x.2 false = true := (by intro x hx he; simp only [List.mem_cons, List.not_mem_nil, or_false] at hx; rcases hx with rfl | rfl | rfl; all_goals first | (exact absurd he (by decide)) | assumption)
    clear hsz hdep hout hlat
    go_simp
    exact hK _ _ (hJ.nx hls hT rfl rfl (by show St12 w0 w w10 P (B + 1) (g8 + 1) r' (.slice (some ⟨gr, 0, none⟩) xs.length cap5) (xs.set j v') ((listed.setIfInBounds 6 true).getD 7 false) _; rw [gset (by decide) false]; exact hJ.st) hord)
   have q118 := hJ.is hT (hdep ⟨6, .data⟩ (by simp) rfl) rfl _ rfl _ rfl
   have q117 := hJ.is hT (hdep ⟨5, .data⟩ (by simp) rfl) rfl _ rfl _ rfl
   have hl6 := (hdep ⟨6, .data⟩ (by simp) rfl).1
   have hl5 := (hdep ⟨5, .data⟩ (by simp) rfl).1
   have hord : ∀ x ∈ ([(7, 6), (7, 5), (6, 3)] : List (Nat × Nat)), x.1 = 7 → listed.getD x.2 false = true := (by intro x hx he; simp only [List.mem_cons, List.not_mem_nil, or_false] at hx; rcases hx with rfl | rfl | rfl; all_goals first | (exact absurd he (by decide)) | assumption)
   have xx : Ex w10 wz := (hJ.st).1 hun
   exact wp_stp v'.C _ _ gr (j * 42) rfl q118 q117 (HBR.out.ext xx) (by rw [Vt.len HVO.out]; exact hlr) (by rw [Try.sizeVt, Vt.len HVO.out]) v'.ones (fun wst hd ho => hK _ _ (hJ.nx hls hT rfl (by trivial) (by show St12 w0 w w10 P (B + 1) (g8 + 1) r' (.slice (some ⟨gr, 0, none⟩) xs.length cap5) (xs.set j v') ((listed.setIfInBounds 7 true).getD 7 false) _; rw [set_new (by rw [hls]; decide)]; exact ⟨(fun e => by cases e), fun _ => (F12s.out wz xx wst hd ho)⟩) hord))
  intro listed f wz hall hJ
  have hst := hJ.st
  simp only [putAll, Act.put, List.setIfInBounds_toArray, List.set_cons_zero, List.set_cons_succ, Nat.zero_add, Nat.reduceAdd]
  have hst : St12 w0 w w10 P (B + 1) (g8 + 1) r' (.slice (some ⟨gr, 0, none⟩) xs.length cap5) (xs.set j v') (listed.getD 7 false) wz := hst
  have FF := Hi (hst.2 (hall 7 (by simp)))
  clear hst
  clear hJ hall hT
  clear hS0 F12s F1 HSR HBR
  obtain ⟨wf, hwf⟩ : ∃ x, x = wz := ⟨_, rfl⟩
  rw [← hwf] at FF ⊢
  obtain ⟨rvf, hrvf⟩ : ∃ x : Value, x = .slice (some ⟨gr, 0, none⟩) xs.length cap5 := ⟨_, rfl⟩
  rw [← hrvf] at FF
  clear hwf hrvf
  go_wp2_with ((with_reducible refine so0 ?_ ?_); (focus rfl))
  refine at9 (by go_simp) fun K0 hK => ld_r _ (g8 + 1) r' rfl rfl FF.out.rb (hK _ _ ?_)
  clear hK
  go_wp2_with ((with_reducible refine so0 ?_ ?_); (focus rfl))
  refine at9 (by go_simp) fun K0 hK => st_r _ _ (B + 1) r' rfl rfl rfl HRO.out FF.out.r0.2 (by rw [List.size_toArray, Rt.len FF.out.r0.1]) (fun wz hd ho => hK _ _ ?_)
  clear hK
  have hkt : Kt [83] w0.heap.size wf wz := Kt.md ho.md (by have := HLO.out; have := HB.out; omega) FF.out.r0.2 (List.mem_singleton.2 rfl)
  have HPZ := Hi ((FF.out.pb HLO.out h0sz).kt hkt (by decide) (by decide) (by decide))
  have HPN := Hi (show PN wz w.heap.size r'.sec from PN.onlyT FF.out.rs ho FF.out.r0.2 (by decide))
  have MZ := Hi (FF.out.md.then (ho.below w.heap.size (by rw [← HB.out]; omega) wf (Below.refl _ _)) hPlt)
  have FRE := Hi (fun g hg => (FF.out.row.lt g hg).1)
  have HD := Hi hd
  clear hd ho hkt
  go_wp2_with fail
  exact bodyPost_ret (res_r rfl _ _ (B + 1) rfl r' HD.out) rfl ⟨r', rvf, (xs.set j v'), rfl, HD.out.1, HPN.out, HPZ.out, Or.inr ⟨HRQ.out.symm, x, _, HGP.out, KPT.out, Or.inr (Or.inr ⟨DC3.out.symm, DC2.out, v', DC1.out, Or.inr ⟨j, rfl, hjl, rfl⟩⟩)⟩, MZ.out, Or.inr FRE.out⟩
 subst hk1
 by_cases hc : 4 ≤ cn
 ·have q2 : (cn : Int) ≥ 4 := by omega
  go_wp2_with (first | ((with_reducible refine so2 [1000+37] ?_ ?_); (focus rfl)) | (with_reducible refine stop_bs ?_) | (with_reducible refine stop_app ?_))
  refine at9 (by go_simp) fun K0 hK => ld_qid _ _ q rfl rfl Q0.out (hK _ _ ?_)
  clear hK
  obtain ⟨q0, q21, q22, q55, q56⟩ := Q0.out.cells
  go_wp2_with (first | ((with_reducible refine so2 [1000+37] ?_ ?_); (focus rfl)) | (with_reducible refine stop_bs ?_) | (with_reducible refine stop_app ?_))
  refine at9 (by go_simp) fun K0 hK => wp_build _ _ rfl _ (built_full q.id q.client q.num HQI.out.1.idN) (hK _ _ ?_)
  clear hK
  go_wp2_with (first | ((with_reducible refine so2 [1000+37] ?_ ?_); (focus rfl)) | (with_reducible refine stop_bs ?_) | (with_reducible refine stop_app ?_))
  refine at9 (by go_simp) fun K0 hK => st_r _ _ (B + 1) (repRt 13 q.id q.client q.num) rfl rfl rfl (repRt_ok (by decide) (by decide) HQI.out.1.idN HQI.out.1.client0 HQI.out.1.client1 HQI.out.1.num0 HQI.out.1.num1) R0.out.2 (by rw [List.size_toArray, Rt.len R0.out.1]) (fun wz hd ho => hK _ _ ?_)
  clear hK
  have hkt : Kt [83] w0.heap.size w7 wz := Kt.md ho.md (by have h1 := HP.out.lo; have h2 := HPL.out; have := HB.out; omega) R0.out.2 (List.mem_singleton.2 rfl)
  have HPZ := Hi ((HP.out.ext BW.out).kt hkt (by decide) (by decide) (by decide))
  have HPN := Hi (show PN wz w.heap.size ((repRt 13 q.id q.client q.num)).sec from PN.onlyT (nilB_pn _ _) ho R0.out.2 (by decide))
  have BZ := Hi (ho.below w.heap.size (by rw [← HB.out]; omega) w BW.out)
  have HD := Hi hd
  clear hd ho hkt
  go_wp2_with fail
  exact bodyPost_ret (res_r rfl _ _ (B + 1) rfl ((repRt 13 q.id q.client q.num)) HD.out) rfl ⟨(repRt 13 q.id q.client q.num), rv, xs, rfl, HD.out.1, HPN.out, HPZ.out, Or.inr ⟨HRQ.out.symm, x, _, HGP.out, KPT.out, Or.inr (Or.inl ⟨DC3.out.symm, by decide, by have h := hc; rw [HCN.out] at h; exact h, rfl, rfl⟩)⟩, Ex.md BZ.out (Nat.le_of_lt HPL.out), Or.inl rfl⟩
 have q2 : ¬ (cn : Int) ≥ 4 := by omega
 go_wp2_with fail
 have G0 : Hid (G12 w0 w P (B + 1) (g8 + 1) r' rv w7) := Hi ⟨PBX.out.blk, g8R.out, HRS.out, R0.out, Ex.md BW.out (Nat.le_of_lt hPlt)⟩
 have hS0 : ∀ (listed : Array Bool) (f : Nat → Value), (∀ i, listed.getD i false = false) → S18 w0 w w7 P (B + 1) (g8 + 1) r' rv xs v' listed f w7.drew := fun listed f h0 => ⟨fun _ => (Below.refl w7.heap.size w7).drew, (fun e => by rw [h0 1] at e; cases e), (fun e => by rw [h0 6] at e; cases e), (fun e => by rw [h0 8] at e; cases e), (fun e => by rw [h0 9] at e; cases e), fun e => by rw [h0 12] at e; cases e⟩
 obtain ⟨T, hT⟩ : ∃ T : List (Value → Prop), T = [(fun zz => zz = .pointer (some ⟨P, 0, none⟩)), (fun _ => True), (fun zz => zz = .pointer (some ⟨P, 0, none⟩)), (fun zz => zz = .pointer (some ⟨P, 0, none⟩)), (fun zz => zz = .pointer (some ⟨P, 0, none⟩)), (fun zz => zz = .slice ad xs.length cap), (fun _ => True), (fun zz => zz = v'.V), (fun _ => True), (fun _ => True), (fun zz => zz = .pointer (some ⟨P, 0, none⟩)), (fun zz => zz = .pointer (some ⟨P, 0, none⟩)), (fun _ => True)] := ⟨_, rfl⟩
 refine wp_region_gen (JS T ([(6, 1), (6, 5), (9, 6), (9, 8), (8, 7), (12, 9)] : List (Nat × Nat)) (S18 w0 w w7 P (B + 1) (g8 + 1) r' rv xs v')) (by kernel_rfl) (by kernel_rfl) (by kernel_rfl) (fitB_spec (by kernel_rfl)) (fun listed f h => JS.start listed f h (hS0 listed f h)) ?_ ?_
 ·intro i o ho
  have hi : i < 13 := (Array.getElem?_eq_some_iff.1 ho).1
  have hi' : i = 0 ∨ i = 1 ∨ i = 2 ∨ i = 3 ∨ i = 4 ∨ i = 5 ∨ i = 6 ∨ i = 7 ∨ i = 8 ∨ i = 9 ∨ i = 10 ∨ i = 11 ∨ i = 12 := by omega
  clear hi
  rcases hi' with rfl | rfl | rfl | rfl | rfl | rfl | rfl | rfl | rfl | rfl | rfl | rfl | rfl
  all_goals (simp only [List.getElem?_toArray, List.getElem?_cons_zero, List.getElem?_cons_succ, Option.some.injEq] at ho; subst ho; intro listed f a wz hJ hsz hls hun hdep hout hlat; first | (rw [if_pos (by rfl)]; intro K hK) | skip)
  ·have q0 := hout 0 (outB_spec (by kernel_rfl))
   rw [Array.getD_eq_getD_getElem?] at q0
   clear hsz hdep hout hlat
   go_simp
   exact hK _ _ (hJ.nx hls hT rfl rfl (S18.plain hJ.st 0 (by decide)) (no_head rfl))
  ·have h6 : listed.getD 6 false = false := by
    cases hc : listed.getD 6 false with
    | false => rfl
    | true =>
     have hc1 := hJ.ord (6, 1) (by simp) hc
     exact absurd hc1 (by rw [hun]; decide)
   have h9 : listed.getD 9 false = false := by
    cases hc : listed.getD 9 false with
    | false => rfl
    | true =>
     have hc1 := hJ.ord (9, 6) (by simp) hc
     have hc2 := hJ.ord (6, 1) (by simp) hc1
     exact absurd hc2 (by rw [hun]; decide)
   have h12 : listed.getD 12 false = false := by
    cases hc : listed.getD 12 false with
    | false => rfl
    | true =>
     have hc1 := hJ.ord (12, 9) (by simp) hc
     have hc2 := hJ.ord (9, 6) (by simp) hc1
     have hc3 := hJ.ord (6, 1) (by simp) hc2
     exact absurd hc3 (by rw [hun]; decide)
   have hst := hJ.st
   have hls2 := hls
   clear hsz hdep hout hlat
   go_simp
   exact hK _ _ (hJ.nx hls hT rfl (by trivial) (S18.s1 hst h6 h9 h12 (Below.size (Ex.trans BW.out (hst.pre h9)))) (no_head rfl))
  ·have q0 := hout 0 (outB_spec (by kernel_rfl))
   rw [Array.getD_eq_getD_getElem?] at q0
   clear hsz hdep hout hlat
   go_simp
   exact hK _ _ (hJ.nx hls hT rfl rfl (S18.plain hJ.st 2 (by decide)) (no_head rfl))
  ·have q92 := hJ.iq hT (hdep ⟨2, .data⟩ (by simp) rfl) rfl _ rfl _ rfl
   clear hsz hdep hout hlat
   go_simp
   exact hK _ _ (hJ.nx hls hT rfl rfl (S18.plain hJ.st 3 (by decide)) (no_head rfl))
  ·have q93 := hJ.iq hT (hdep ⟨3, .data⟩ (by simp) rfl) rfl _ rfl _ rfl
   clear hsz hdep hout hlat
   go_simp
   exact hK _ _ (hJ.nx hls hT rfl rfl (S18.plain hJ.st 4 (by decide)) (no_head rfl))
  ·have q94 := hJ.iq hT (hdep ⟨4, .data⟩ (by simp) rfl) rfl _ rfl _ rfl
   have h9 : listed.getD 9 false = false := by
    cases hc : listed.getD 9 false with
    | false => rfl
    | true =>
     have hc1 := hJ.ord (9, 6) (by simp) hc
     have hc2 := hJ.ord (6, 5) (by simp) hc1
     exact absurd hc2 (by rw [hun]; decide)
   have cc : wz.cell? ⟨P, 0, none⟩ = some (.slice ad xs.length cap) := by rw [((PBX.out.blk).ext (hJ.st.pre h9)).cell, ← ERV.out]; rfl
   clear hsz hdep hout hlat
   go_simp
   exact hK _ _ (hJ.nx hls hT rfl rfl (S18.plain hJ.st 5 (by decide)) (no_head rfl))
  ·have dd91 := hdep ⟨1, .data⟩ (by simp) rfl
   have q91 := dd91.2 _ rfl _ rfl
   have q95 := hJ.is hT (hdep ⟨5, .data⟩ (by simp) rfl) rfl _ rfl _ rfl
   have hl1 := (hdep ⟨1, .data⟩ (by simp) rfl).1
   have hl5 := (hdep ⟨5, .data⟩ (by simp) rfl).1
   have hord : ∀ x ∈ ([(6, 1), (6, 5), (9, 6), (9, 8), (8, 7), (12, 9)] : List (Nat × Nat)), x.1 = 6 → listed.getD x.2 false = true := (by intro x hx he; simp only [List.mem_cons, List.not_mem_nil, or_false] at hx; rcases hx with rfl | rfl | rfl | rfl | rfl | rfl; all_goals first | (exact absurd he (by decide)) | assumption)
   have h9 : listed.getD 9 false = false := by
    cases hc : listed.getD 9 false with
    | false => rfl
    | true =>
     have hc1 := hJ.ord (9, 6) (by simp) hc
     exact absurd hc1 (by rw [hun]; decide)
   have h12 : listed.getD 12 false = false := by
    cases hc : listed.getD 12 false with
    | false => rfl
    | true =>
     have hc1 := hJ.ord (12, 9) (by simp) hc
     have hc2 := hJ.ord (9, 6) (by simp) hc1
     exact absurd hc2 (by rw [hun]; decide)
   have hst := hJ.st
   have hl1 := (hdep ⟨1, .data⟩ (by simp) rfl).1
   have hem := hst.e1 hl1 hun
   have xx := hst.pre h9
   exact wp_rd0 _ _ 37 36 zeroVt.V 42 96 rfl Try.underlying37 Try.infoVt rfl (by decide) w.heap.size _ q91 hem (Below.size (Ex.trans BW.out xx)) ad xs.length cap (xs.flatMap Vt.C) q95 (RX.out.2.2.ext xx) RX.out.2.1 RX.out.1 (vflat_one xs) (by have := HL.out; omega) (by have := HL.out; omega) (fun v5 w5 r1 x9 => hK _ _ (hJ.nx hls hT rfl (by trivial) (S18.s6 hst (by rw [hls]; decide) h9 h12 x9 r1) hord))
  ·have q9 := hout 9 (outB_spec (by kernel_rfl))
   have h9 : listed.getD 9 false = false := by
    cases hc : listed.getD 9 false with
    | false => rfl
    | true =>
     have hc1 := hJ.ord (9, 8) (by simp) hc
     have hc2 := hJ.ord (8, 7) (by simp) hc1
     exact absurd hc2 (by rw [hun]; decide)
   exact ld_v _ g8 v' rfl q9 (g8V.out.ext (hJ.st.pre h9)) (hK _ _ (hJ.nx hls hT rfl rfl (S18.plain hJ.st 7 (by decide)) (no_head rfl)))
  ·have q97 := hJ.is hT (hdep ⟨7, .data⟩ (by simp) rfl) rfl _ rfl _ rfl
   have hl7 := (hdep ⟨7, .data⟩ (by simp) rfl).1
   have hord : ∀ x ∈ ([(6, 1), (6, 5), (9, 6), (9, 8), (8, 7), (12, 9)] : List (Nat × Nat)), x.1 = 8 → listed.getD x.2 false = true := (by intro x hx he; simp only [List.mem_cons, List.not_mem_nil, or_false] at hx; rcases hx with rfl | rfl | rfl | rfl | rfl | rfl; all_goals first | (exact absurd he (by decide)) | assumption)
   have h9 : listed.getD 9 false = false := by
    cases hc : listed.getD 9 false with
    | false => rfl
    | true =>
     have hc1 := hJ.ord (9, 8) (by simp) hc
     exact absurd hc1 (by rw [hun]; decide)
   have h12 : listed.getD 12 false = false := by
    cases hc : listed.getD 12 false with
    | false => rfl
    | true =>
     have hc1 := hJ.ord (12, 9) (by simp) hc
     have hc2 := hJ.ord (9, 8) (by simp) hc1
     exact absurd hc2 (by rw [hun]; decide)
   exact wp_bsv _ v' HVO.out rfl q97 (hK _ _ (hJ.nx hls hT rfl (by trivial) (S18.s8 hJ.st h9 h12) hord))
  ·have dd96 := hdep ⟨6, .data⟩ (by simp) rfl
   have q96 := dd96.2 _ rfl _ rfl
   have dd98 := hdep ⟨8, .data⟩ (by simp) rfl
   have q98 := dd98.2 _ rfl _ rfl
   have hl6 := (hdep ⟨6, .data⟩ (by simp) rfl).1
   have hl8 := (hdep ⟨8, .data⟩ (by simp) rfl).1
   have hord : ∀ x ∈ ([(6, 1), (6, 5), (9, 6), (9, 8), (8, 7), (12, 9)] : List (Nat × Nat)), x.1 = 9 → listed.getD x.2 false = true := (by intro x hx he; simp only [List.mem_cons, List.not_mem_nil, or_false] at hx; rcases hx with rfl | rfl | rfl | rfl | rfl | rfl; all_goals first | (exact absurd he (by decide)) | assumption)
   have h12 : listed.getD 12 false = false := by
    cases hc : listed.getD 12 false with
    | false => rfl
    | true =>
     have hc1 := hJ.ord (12, 9) (by simp) hc
     exact absurd hc1 (by rw [hun]; decide)
   have hst := hJ.st
   have hl6 := (hdep ⟨6, .data⟩ (by simp) rfl).1
   have hl8 := (hdep ⟨8, .data⟩ (by simp) rfl).1
   have hr6 := hst.e6 hl6 hun
   obtain ⟨g6, e6, hb6⟩ := hst.e8 hl8 hun
   rw [e6] at q98
   have xx : Ex w7 wz := hst.pre hun
   have G2 := G0.out.ext xx hPlt
   have PB2 := PBX.out.ext xx
   obtain ⟨adx, ex, nx, rx⟩ := Many.rd (n := 1) (sz := 42) ⟨g6, rfl, hb6⟩ (Vt.len HVO.out)
   cases ex
   refine wp_rd _ _ 37 36 zeroVt.V 42 96 rfl Try.underlying37 Try.infoVt rfl (by decide) w.heap.size xs.length _ _ q96 hr6 G2.md.size _ 1 1 _ q98 rx (Nat.le_refl _) (fun h => by cases h) (Vt.C_one v') (by have := HL.out; omega) (by have := HL.out; omega) (fun v7 w7' r1 r2 => ?_)
   have hr : w7'.ownsRow w.heap.size 36 42 v7 (xs ++ [v']).length ((xs ++ [v']).flatMap Vt.C) := by rw [List.length_append, List.flatMap_append]; simpa using r1
   have hxx : ∀ x ∈ xs ++ [v'], PX w0 w7' x := fun x hx => by
    rcases List.mem_append.1 hx with h | h
    ·obtain ⟨i9, hi9, e9⟩ := List.getElem_of_mem h
     exact (PB2.ins i9 x (by rw [List.getElem?_eq_getElem hi9, e9])).kt (r2.less h0sz) (by decide)
    ·rw [List.mem_singleton.1 h]; exact (show PX w0 wz v' from ⟨PXV.out.ok, PXV.out.sec.ext (Nat.le_trans HP.out.sz (Below.size BW.out)) xx, PXV.out.len⟩).kt (r2.less h0sz) (by decide)
   exact hK _ _ (hJ.nx hls hT rfl (by trivial) (S18.s9 hst (by rw [hls]; decide) hl6 h12 hr hxx ⟨r2.bk G2.blk (by decide), ⟨G2.rb.1, r2.bk G2.rb.2 (by decide)⟩, G2.rs.kt r2 (by decide), ⟨G2.r0.1, r2.bk G2.r0.2 (by decide)⟩, G2.md.then r2.below hPlt⟩) hord)
  ·have q90 := hJ.iq hT (hdep ⟨0, .data⟩ (by simp) rfl) rfl _ rfl _ rfl
   clear hsz hdep hout hlat
   go_simp
   exact hK _ _ (hJ.nx hls hT rfl rfl (S18.plain hJ.st 10 (by decide)) (no_head rfl))
  ·have q100 := hJ.iq hT (hdep ⟨10, .data⟩ (by simp) rfl) rfl _ rfl _ rfl
   clear hsz hdep hout hlat
   go_simp
   exact hK _ _ (hJ.nx hls hT rfl rfl (S18.plain hJ.st 11 (by decide)) (no_head rfl))
  have q101 := hJ.is hT (hdep ⟨11, .data⟩ (by simp) rfl) rfl _ rfl _ rfl
  have dd99 := hdep ⟨9, .data⟩ (by simp) rfl
  have q99 := dd99.2 _ rfl _ rfl
  have hl9 := (hdep ⟨9, .data⟩ (by simp) rfl).1
  have hord : ∀ x ∈ ([(6, 1), (6, 5), (9, 6), (9, 8), (8, 7), (12, 9)] : List (Nat × Nat)), x.1 = 12 → listed.getD x.2 false = true := (by intro x hx he; simp only [List.mem_cons, List.not_mem_nil, or_false] at hx; rcases hx with rfl | rfl | rfl | rfl | rfl | rfl; all_goals first | (exact absurd he (by decide)) | assumption)
  have hl9 := (hdep ⟨9, .data⟩ (by simp) rfl).1
  have hl6 := hJ.ord (9, 6) (by simp) hl9
  obtain ⟨hr, hxx, hf⟩ := S18.e9 hJ.st hl9 hun
  exact wp_st1 (C := [_]) _ _ P 0 (f 9) rfl q101 q99 hf.blk (by simp) (by kernel_rfl) (own_sl hr).1 (fun wst hd ho => hK _ _ (hJ.nx hls hT rfl (by trivial) (S18.s12 (by rw [hls]; decide) hl6 hl9 ⟨_, hf.st HLO.out hd ho hr hxx⟩) hord))
 intro listed f wz hall hJ
 have hst := hJ.st
 simp only [putAll, Act.put, List.setIfInBounds_toArray, List.set_cons_zero, List.set_cons_succ, Nat.zero_add, Nat.reduceAdd]
 obtain ⟨rvf, hff⟩ := S18.fin hst (hall 12 (by simp))
 have FF := Hi hff
 clear hst hff
 clear hJ hall hT
 clear hS0 G0
 obtain ⟨wf, hwf⟩ : ∃ x, x = wz := ⟨_, rfl⟩
 rw [← hwf] at FF ⊢
 clear hwf
 go_wp2_with ((with_reducible refine so0 ?_ ?_); (focus rfl))
 refine at9 (by go_simp) fun K0 hK => ld_r _ (g8 + 1) r' rfl rfl FF.out.rb (hK _ _ ?_)
 clear hK
 go_wp2_with ((with_reducible refine so0 ?_ ?_); (focus rfl))
 refine at9 (by go_simp) fun K0 hK => st_r _ _ (B + 1) r' rfl rfl rfl HRO.out FF.out.r0.2 (by rw [List.size_toArray, Rt.len FF.out.r0.1]) (fun wz hd ho => hK _ _ ?_)
 clear hK
 have hkt : Kt [83] w0.heap.size wf wz := Kt.md ho.md (by have := HLO.out; have := HB.out; omega) FF.out.r0.2 (List.mem_singleton.2 rfl)
 have HPZ := Hi ((FF.out.pb HLO.out h0sz).kt hkt (by decide) (by decide) (by decide))
 have HPN := Hi (show PN wz w.heap.size r'.sec from PN.onlyT FF.out.rs ho FF.out.r0.2 (by decide))
 have MZ := Hi (FF.out.md.then (ho.below w.heap.size (by rw [← HB.out]; omega) wf (Below.refl _ _)) hPlt)
 have FRE := Hi (fun g hg => (FF.out.row.lt g hg).1)
 have HD := Hi hd
 clear hd ho hkt
 go_wp2_with fail
 exact bodyPost_ret (res_r rfl _ _ (B + 1) rfl r' HD.out) rfl ⟨r', rvf, (xs ++ [v']), rfl, HD.out.1, HPN.out, HPZ.out, Or.inr ⟨HRQ.out.symm, x, _, HGP.out, KPT.out, Or.inr (Or.inr ⟨DC3.out.symm, DC2.out, v', DC1.out, Or.inl ⟨by decide, by have h := Nat.lt_of_not_le hc; rw [HCN.out] at h; exact h, rfl⟩⟩)⟩, MZ.out, Or.inr FRE.out⟩
end Go.Proofs.Ytmjfnpmnhehnkaa.K
