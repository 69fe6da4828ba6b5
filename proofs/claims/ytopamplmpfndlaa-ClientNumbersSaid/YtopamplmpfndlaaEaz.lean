/- MVeG, MVeH -/
import Derived.Test.YtopamplmpfndlaaEay
set_option maxRecDepth 100000
set_option maxHeartbeats 16000000
namespace Go.Proofs.Ytopamplmpfndlaa.Sm
open Go.RowKit
theorem rseal_any (kl : List UInt8) (hkll : kl.length = 16) (n : Int) (n0 : 0 ≤ n) (n1 : n < 18446744073709551616) (p q : Pt) (w : World) (hp : p.In w w.heap.size) (hq : q.In w w.heap.size) (hpm : p.l.length ≤ 8192) (hqm : q.l.length ≤ 8184) :
  Calls Try.prog 60 #[digV kl, .int .u64 n, p.V, q.V] w (PtPost (sealL kl n p.l q.l) w) := by
 obtain ⟨cs, hcs⟩ : ∃ cs, cs = (Lib.byteCells kl).toArray := ⟨_, rfl⟩
 have hv : digV kl = .agg cs := by rw [hcs]; rfl
 have HA : Hid (DB (w.alloc (.cells cs 36)) w.heap.size kl) := by rw [hcs]; exact Lib.hid (DB.new rfl hkll)
 have bw : Below w.heap.size w (w.alloc (.cells cs 36)) := (Below.refl _ _).alloc (Nat.le_refl _) _
 have bz : w.heap.size ≤ (w.alloc (.cells cs 36)).heap.size := bw.size
 obtain ⟨mp, hmp⟩ : ∃ m, m = p.l.length := ⟨_, rfl⟩
 obtain ⟨mq, hmq⟩ : ∃ m, m = q.l.length := ⟨_, rfl⟩
 obtain ⟨pL, hpl'⟩ : ∃ x, x = p.l := ⟨_, rfl⟩
 obtain ⟨qL, hql'⟩ : ∃ x, x = q.l := ⟨_, rfl⟩
 obtain ⟨Hd, hHd⟩ : ∃ x, x = hidL (streamL kl n q.l.length) q.l := ⟨_, rfl⟩
 obtain ⟨M, hM⟩ : ∃ x, x = markL kl n p.l q.l := ⟨_, rfl⟩
 have hR : sealL kl n p.l q.l = Hd ++ M := by unfold sealL; rw [hHd, hM]
 have HHl := Lib.hid (show Hd.length = mq by rw [hHd, hidL_len, strm_len, hmq])
 have HMl := Lib.hid (show M.length = 8 by rw [hM, markL_len])
 have HD1 := Lib.hid (show ∀ (W : World) (r : Pt), r.l = qL → r.In W W.heap.size → Calls Try.prog 105 #[digV kl, .int .u64 n, r.V] W (OwnPost Hd W) from fun W r hr hi => by
  have h := xored_any kl hkll n n0 n1 r W hi (by rw [hr, hql', ← hmq]; omega)
  rw [hr, hql', ← hHd] at h; exact h)
 have MK := Lib.hid (show ∀ (W : World) (r t : Pt), r.l = pL → t.l = qL → r.In W W.heap.size → t.In W W.heap.size → Calls Try.prog 106 #[digV kl, .int .u64 n, r.V, t.V] W (PtPost M W) from fun W r t hr ht hi hj => by
  have h := rmark_any kl hkll n n0 n1 r t W hi hj (by rw [hr, hpl', ← hmp]; omega) (by rw [ht, hql', ← hmq]; omega)
  rw [hr, ht, hpl', hql', ← hM] at h; exact h)
 have hpi := hp.ext bw
 have hqi := hq.ext bw
 have hpl : p.l = pL := hpl'.symm
 have hql : q.l = qL := hql'.symm
 have hpv : p.V = .slice p.ad mp p.cap := by unfold Pt.V; rw [hmp]
 have hqv : q.V = .slice q.ad mq q.cap := by unfold Pt.V; rw [hmq]
 rw [← hmp] at hpm
 rw [← hmq] at hqm
 have HPV := Lib.hid hpv
 have HQV := Lib.hid hqv
 rw [hv, hpv, hqv, hR]
 clear hv hcs hmp hmq hpl' hql' hHd hM hR hp hq hpv hqv
 go_enter Try.func60, Try.ntmps60
 go_wp2_with fail
 generalize w.alloc (.cells cs 36) = wr at *
 rw [← HPV.out, ← HQV.out]
 obtain ⟨T, hT⟩ : ∃ T : List As2, T = [.is (digV kl), .is (.int .u64 n), .pt qL, .own w.heap.size Hd, .is (digV kl), .is (.int .u64 n), .pt pL, .pt qL, .pt M] := ⟨_, rfl⟩
 refine wp_region_flow2 9 (tabPhi2 T) (by kernel_rfl) rfl (by kernel_rfl) (by kernel_rfl) (by kernel_rfl) (by kernel_rfl) (tabPhi2_stable T) (fitB_spec (by kernel_rfl)) ?_ ?_
 ·intro i o hi ho
  have hi' : i = 0 ∨ i = 1 ∨ i = 2 ∨ i = 3 ∨ i = 4 ∨ i = 5 ∨ i = 6 ∨ i = 7 ∨ i = 8 := by omega
  rcases hi' with rfl | rfl | rfl | rfl | rfl | rfl | rfl | rfl | rfl
  all_goals (simp only [List.getElem?_toArray, List.getElem?_cons_zero, List.getElem?_cons_succ, Option.some.injEq] at ho; subst ho; intro a w2 hx hsz hdep hout)
  ·rw [if_pos (by rfl)]
   intro K hK
   have f := hout 4 (outB_spec (by kernel_rfl))
   exact wp_ld _ w.heap.size kl rfl f (HA.out.ext (Ex.trans (show Ex wr wr.drew from (Below.refl _ _).drew) hx)) (hK _ _ (Ex.refl _) (by rw [hT]; rfl))
  ·rw [if_pos (by rfl)]
   intro K hK
   have f := hout 1 (outB_spec (by kernel_rfl))
   exact wp_mv _ rfl (hK _ _ (Ex.refl _) (by rw [hT]; exact f))
  ·rw [if_pos (by rfl)]
   intro K hK
   have f := hout 3 (outB_spec (by kernel_rfl))
   exact wp_mv _ rfl (hK _ _ (Ex.refl _) (by rw [hT]; exact ⟨q, f, hql, hqi.ext (Ex.trans (show Ex wr wr.drew from (Below.refl _ _).drew) hx)⟩))
  ·rw [if_pos (by rfl)]
   intro K hK
   obtain ⟨v, hv, kv⟩ := hdep ⟨0, .data⟩ (by simp) rfl _ rfl
   have qv := kv _ rfl
   rw [hT] at hv
   obtain rfl : v = digV kl := hv
   obtain ⟨u, hu, ku⟩ := hdep ⟨1, .data⟩ (by simp) rfl _ rfl
   have qu := ku _ rfl
   rw [hT] at hu
   obtain rfl : u = .int .u64 n := hu
   obtain ⟨x, hx, kx⟩ := hdep ⟨2, .data⟩ (by simp) rfl _ rfl
   have qx := kx _ rfl
   rw [hT] at hx
   obtain ⟨px, rfl, lx, ix⟩ := hx
   go_simp
   refine (HD1.out w2 _ lx ix).mono ?_
   rintro e w3 ⟨x9, rfl, ho9, hex⟩
   exact hK _ _ hex (by rw [hT]; exact own_less ho9 (show w.heap.size ≤ _ from Nat.le_trans bz (Nat.le_trans hx.size (Nat.le_refl _))))
  ·rw [if_pos (by rfl)]
   intro K hK
   have f := hout 4 (outB_spec (by kernel_rfl))
   exact wp_ld _ w.heap.size kl rfl f (HA.out.ext (Ex.trans (show Ex wr wr.drew from (Below.refl _ _).drew) hx)) (hK _ _ (Ex.refl _) (by rw [hT]; rfl))
  ·rw [if_pos (by rfl)]
   intro K hK
   have f := hout 1 (outB_spec (by kernel_rfl))
   exact wp_mv _ rfl (hK _ _ (Ex.refl _) (by rw [hT]; exact f))
  ·rw [if_pos (by rfl)]
   intro K hK
   have f := hout 2 (outB_spec (by kernel_rfl))
   exact wp_mv _ rfl (hK _ _ (Ex.refl _) (by rw [hT]; exact ⟨p, f, hpl, hpi.ext (Ex.trans (show Ex wr wr.drew from (Below.refl _ _).drew) hx)⟩))
  ·rw [if_pos (by rfl)]
   intro K hK
   have f := hout 3 (outB_spec (by kernel_rfl))
   exact wp_mv _ rfl (hK _ _ (Ex.refl _) (by rw [hT]; exact ⟨q, f, hql, hqi.ext (Ex.trans (show Ex wr wr.drew from (Below.refl _ _).drew) hx)⟩))
  rw [if_pos (by rfl)]
  intro K hK
  obtain ⟨v, hv, kv⟩ := hdep ⟨4, .data⟩ (by simp) rfl _ rfl
  have qv := kv _ rfl
  rw [hT] at hv
  obtain rfl : v = digV kl := hv
  obtain ⟨u, hu, ku⟩ := hdep ⟨5, .data⟩ (by simp) rfl _ rfl
  have qu := ku _ rfl
  rw [hT] at hu
  obtain rfl : u = .int .u64 n := hu
  obtain ⟨x, hx, kx⟩ := hdep ⟨6, .data⟩ (by simp) rfl _ rfl
  have qx := kx _ rfl
  rw [hT] at hx
  obtain ⟨px, rfl, lx, ix⟩ := hx
  obtain ⟨y, hy, ky⟩ := hdep ⟨7, .data⟩ (by simp) rfl _ rfl
  have qy := ky _ rfl
  rw [hT] at hy
  obtain ⟨py, rfl, ly, iy⟩ := hy
  go_simp
  refine (MK.out w2 _ _ lx ly ix iy).mono ?_
  rintro e w3 ⟨p, rfl, hl, hin, hex⟩
  exact hK _ _ hex (by rw [hT]; exact ⟨p, rfl, hl, hin⟩)
 intro a w2 hx hdef hsz hdone hout
 obtain ⟨v, hv, kv⟩ := hdone 3 _ (by omega) rfl
 have qv := kv _ rfl
 rw [hT] at hv
 have hv : ownU w2 w.heap.size v Hd := hv
 obtain ⟨u, hu, ku⟩ := hdone 8 _ (by omega) rfl
 have qu := ku _ rfl
 rw [hT] at hu
 obtain ⟨pu, rfl, lu, iu⟩ := hu
 clear hdone kv ku hT
 have hA := arr_range a.tmps 27 hsz
 change a.tmps = #[a.tmps[0]?.getD undef, a.tmps[1]?.getD undef, a.tmps[2]?.getD undef, a.tmps[3]?.getD undef, a.tmps[4]?.getD undef, a.tmps[5]?.getD undef, a.tmps[6]?.getD undef, a.tmps[7]?.getD undef, a.tmps[8]?.getD undef, a.tmps[9]?.getD undef, a.tmps[10]?.getD undef, a.tmps[11]?.getD undef, a.tmps[12]?.getD undef, a.tmps[13]?.getD undef, a.tmps[14]?.getD undef, a.tmps[15]?.getD undef, a.tmps[16]?.getD undef, a.tmps[17]?.getD undef, a.tmps[18]?.getD undef, a.tmps[19]?.getD undef, a.tmps[20]?.getD undef, a.tmps[21]?.getD undef, a.tmps[22]?.getD undef, a.tmps[23]?.getD undef, a.tmps[24]?.getD undef, a.tmps[25]?.getD undef, a.tmps[26]?.getD undef] at hA
 have e0 := hout 0 oc
 have e1 := hout 1 oc
 have e2 := hout 2 oc
 have e3 := hout 3 oc
 have e4 := hout 4 oc
 have e5 := hout 5 oc
 have e6 := hout 6 oc
 have e7 := hout 7 oc
 have e9 := hout 9 oc
 have e10 := hout 10 oc
 have e11 := hout 11 oc
 have e12 := hout 12 oc
 have e13 := hout 13 oc
 have e14 := hout 14 oc
 have e15 := hout 15 oc
 have e16 := hout 16 oc
 simp only [Array.getD_eq_getD_getElem?, List.getElem?_toArray, List.getElem?_cons_zero, List.getElem?_cons_succ, Option.getD_some] at e0 e1 e2 e3 e4 e5 e6 e7 e9 e10 e11 e12 e13 e14 e15 e16
 rw [e0, e1, e2, e3, e4, e5, e6, e7, e9, e10, e11, e12, e13, e14, e15, e16] at hA
 clear e0 e1 e2 e3 e4 e5 e6 e7 e9 e10 e11 e12 e13 e14 e15 e16 hout
 have hds2 : a.defers = [] := hdef
 have ea : a = ⟨a.tmps, a.defers⟩ := rfl
 have s20 : a.tmps[20]?.getD undef = v := by simpa [Array.getD_eq_getD_getElem?] using qv
 have s25 : a.tmps[25]?.getD undef = pu.V := by simpa [Array.getD_eq_getD_getElem?] using qu
 rw [hA, hds2, s20, s25] at ea
 clear hA hds2 s20 qv s25 qu hdef
 generalize a.tmps[17]?.getD undef = y17 at ea
 generalize a.tmps[18]?.getD undef = y18 at ea
 generalize a.tmps[19]?.getD undef = y19 at ea
 generalize a.tmps[21]?.getD undef = y21 at ea
 generalize a.tmps[22]?.getD undef = y22 at ea
 generalize a.tmps[23]?.getD undef = y23 at ea
 generalize a.tmps[24]?.getD undef = y24 at ea
 generalize a.tmps[26]?.getD undef = y26 at ea
 generalize a.tmps[8]?.getD undef = y8 at ea
 clear hsz
 subst ea
 have bx : Below wr.heap.size wr w2 := Below.trans (Below.refl _ _).drew hx
 refine wpOp_do rfl (by rfl) ?_
 rw [← lu] at HMl
 refine wp_app_own (.tmp 20) (.tmp 25) rfl w.heap.size v Hd pu rfl rfl hv iu (by have := hx.size; have := bz; exact Nat.le_trans bz bx.size) (by rw [HHl.out, HMl.out]; omega) (by rw [HMl.out]; omega) ?_
 intro v' w' ow' b'
 refine wpOp_do rfl (by rfl) ?_
 refine wp_asg2 _ rfl ?_
 have bw3 : Below w.heap.size w w' := Below.trans (Below.trans bw (bx.mono bz)) b'
 obtain ⟨r, rfl, rl, ri⟩ := own_pt0 ow'
 obtain ⟨rv, hrv⟩ : ∃ x, x = r.V := ⟨_, rfl⟩
 rw [← hrv]
 have HRV := Lib.hid hrv
 have RL := Lib.hid rl
 have RI := Lib.hid ri
 rw [lu] at RL
 clear hrv rl ri ow' b' bx hx hv iu lu HMl HHl
 go_simp
 go_wp2_with fail
 go_ret
 exact ⟨r, by show Ending.returned rv = _; rw [HRV.out], RL.out, RI.out, bw3⟩
theorem ropen_any (kl : List UInt8) (hkll : kl.length = 16) (n : Int) (n0 : 0 ≤ n) (n1 : n < 18446744073709551616) (p b : Pt) (w : World) (hp : p.In w w.heap.size) (hb : b.In w w.heap.size) :
  Calls Try.prog 123 #[digV kl, .int .u64 n, p.V, b.V] w (OpenPost (openL kl n p.l b.l) w) := by
 obtain ⟨cs, hcs⟩ : ∃ cs, cs = (Lib.byteCells kl).toArray := ⟨_, rfl⟩
 have hv : digV kl = .agg cs := by rw [hcs]; rfl
 have HA : Hid (DB (w.alloc (.cells cs 36)) w.heap.size kl) := by rw [hcs]; exact Lib.hid (DB.new rfl hkll)
 have bw : Below w.heap.size w (w.alloc (.cells cs 36)) := (Below.refl _ _).alloc (Nat.le_refl _) _
 have bz : w.heap.size ≤ (w.alloc (.cells cs 36)).heap.size := bw.size
 obtain ⟨mp, hmp⟩ : ∃ m, m = p.l.length := ⟨_, rfl⟩
 obtain ⟨mb, hmb⟩ : ∃ m, m = b.l.length := ⟨_, rfl⟩
 have hpv : p.V = .slice p.ad mp p.cap := by unfold Pt.V; rw [hmp]
 have hbv : b.V = .slice b.ad mb b.cap := by unfold Pt.V; rw [hmb]
 obtain ⟨R, hR⟩ : ∃ R, R = openL kl n p.l b.l := ⟨_, rfl⟩
 have HPV := Lib.hid hpv
 have HBV := Lib.hid hbv
 have HPL := Lib.hid hmp
 have HBL := Lib.hid hmb
 have HR := Lib.hid hR
 have HKL := Lib.hid hkll
 have hpi := hp.ext bw
 have hbi := hb.ext bw
 rw [hv, hpv, hbv, ← hR]
 clear hv hcs hpv hbv hR hmp hmb hp hb hkll
 by_cases hbad : mb < 8 ∨ 8192 < mb ∨ 8192 < mp
 ·have hR : R = none := by
   rw [HR.out]; unfold openL
   rw [if_pos (by rw [← HBL.out, ← HPL.out]; exact hbad)]
  subst hR
  go_enter Try.func123, Try.ntmps123
  by_cases c1 : mb < 8
  ·go_wp2_with fail
   go_ret2
   exact ⟨rfl, bw⟩
  by_cases c2 : 8192 < mb
  ·go_wp2_with fail
   go_ret2
   exact ⟨rfl, bw⟩
  have c3 : 8192 < mp := by omega
  go_wp2_with fail
  go_ret2
  exact ⟨rfl, bw⟩
 have hb1 : 8 ≤ mb := by omega
 have hb2 : mb ≤ 8192 := by omega
 have hp1 : mp ≤ 8192 := by omega
 clear hbad
 obtain ⟨en, hen⟩ : ∃ en, en + 8 = mb := ⟨mb - 8, by omega⟩
 obtain ⟨pL, hpl'⟩ : ∃ x, x = p.l := ⟨_, rfl⟩
 obtain ⟨bL, hbl'⟩ : ∃ x, x = b.l := ⟨_, rfl⟩
 have hbm : bL.length = mb := by rw [hbl', ← HBL.out]
 have HMB := Lib.hid hbm
 have HTL := Lib.hid (show (bL.take en).length = en by rw [List.length_take, hbm]; omega)
 have HDL := Lib.hid (show (bL.drop en).length = 8 by rw [List.length_drop, hbm]; omega)
 obtain ⟨H, hH⟩ : ∃ x, x = hidL (streamL kl n en) (bL.take en) := ⟨_, rfl⟩
 have HHl := Lib.hid (show H.length = en by rw [hH, hidL_len, strm_len])
 obtain ⟨M, hM⟩ : ∃ x, x = markL kl n pL H := ⟨_, rfl⟩
 obtain ⟨bq, hbq⟩ : ∃ x, x = decide (M = bL.drop en) := ⟨_, rfl⟩
 have HBQ := Lib.hid hbq.symm
 have hR : R = if bq = true then some H else none := by
  rw [HR.out]; unfold openL
  rw [if_neg (by rw [← HBL.out, ← HPL.out]; omega), ← HBL.out, ← hbl', ← hpl', show mb - 8 = en by omega, ← hH, ← hM]
  by_cases e : M = bL.drop en
  ·rw [if_pos e, if_pos (by rw [hbq]; exact decide_eq_true e)]
  ·rw [if_neg e, if_neg (by rw [hbq]; simpa using e)]
 have HR2 := Lib.hid hR
 have HD1 := Lib.hid (show ∀ (W : World) (r : Pt), r.l = bL.take en → r.In W W.heap.size → Calls Try.prog 105 #[digV kl, .int .u64 n, r.V] W (PtPost H W) from fun W r hr hi => by
  have h := xored_any kl HKL.out n n0 n1 r W hi (by rw [hr, HTL.out]; omega)
  rw [hr, HTL.out, ← hH] at h; exact Calls.mono h fun _ _ => OwnPost.pt)
 have MK := Lib.hid (show ∀ (W : World) (r t : Pt), r.l = pL → t.l = H → r.In W W.heap.size → t.In W W.heap.size → Calls Try.prog 106 #[digV kl, .int .u64 n, r.V, t.V] W (PtPost M W) from fun W r t hr ht hi hj => by
  have h := rmark_any kl HKL.out n n0 n1 r t W hi hj (by rw [hr, hpl', ← HPL.out]; omega) (by rw [ht, HHl.out]; omega)
  rw [hr, ht, ← hM] at h; exact h)
 have hpl : p.l = pL := hpl'.symm
 have hbl : b.l = bL := hbl'.symm
 have HEN := Lib.hid hen
 clear hpl' hbl' hH hM hbq hR hbm HR HKL
 go_enter Try.func123, Try.ntmps123
 go_wp2_with fail
 generalize w.alloc (.cells cs 36) = wr at *
 rw [← HPV.out, ← HBV.out]
 obtain ⟨T, hT⟩ : ∃ T : List As, T = [.is (digV kl), .is (.int .u64 n), .pt bL, .pt bL, .is (.int .i64 (mb : Int)), .is (.int .i64 (en : Int)), .pt (bL.take en), .pt H] := ⟨_, rfl⟩
 refine wp_region_flow 8 (tabPhi T) (by kernel_rfl) rfl (by kernel_rfl) (by kernel_rfl) (by kernel_rfl) (tabPhi_stable T) (fitB_spec (by kernel_rfl)) ?_ ?_
 ·intro i o hi ho
  have hi' : i = 0 ∨ i = 1 ∨ i = 2 ∨ i = 3 ∨ i = 4 ∨ i = 5 ∨ i = 6 ∨ i = 7 := by omega
  rcases hi' with rfl | rfl | rfl | rfl | rfl | rfl | rfl | rfl
  all_goals (simp only [List.getElem?_toArray, List.getElem?_cons_zero, List.getElem?_cons_succ, Option.some.injEq] at ho; subst ho; intro a w2 hx hsz hdep hout)
  ·rw [if_pos (by rfl)]
   intro K hK
   have f := hout 4 (outB_spec (by kernel_rfl))
   exact wp_ld _ w.heap.size kl rfl f (HA.out.ext (Ex.trans (show Ex wr wr.drew from (Below.refl _ _).drew) hx)) (hK _ _ (Ex.refl _) (by rw [hT]; rfl))
  ·rw [if_pos (by rfl)]
   intro K hK
   have f := hout 1 (outB_spec (by kernel_rfl))
   exact wp_mv _ rfl (hK _ _ (Ex.refl _) (by rw [hT]; exact f))
  ·rw [if_pos (by rfl)]
   intro K hK
   have f := hout 3 (outB_spec (by kernel_rfl))
   exact wp_mv _ rfl (hK _ _ (Ex.refl _) (by rw [hT]; exact ⟨b, f, hbl, hbi.ext (Ex.trans (show Ex wr wr.drew from (Below.refl _ _).drew) hx)⟩))
  ·rw [if_pos (by rfl)]
   intro K hK
   have f := hout 3 (outB_spec (by kernel_rfl))
   exact wp_mv _ rfl (hK _ _ (Ex.refl _) (by rw [hT]; exact ⟨b, f, hbl, hbi.ext (Ex.trans (show Ex wr wr.drew from (Below.refl _ _).drew) hx)⟩))
  ·rw [if_pos (by rfl)]
   intro K hK
   obtain ⟨v, hv, kv⟩ := hdep ⟨3, .data⟩ (by simp) rfl _ rfl
   have qv := kv _ rfl
   rw [hT] at hv
   obtain ⟨pv, rfl, lv, iv⟩ := hv
   have q : a.tmps[27]?.getD undef = .slice pv.ad mb pv.cap := by rw [← Array.getD_eq_getD_getElem?, qv]; unfold Pt.V; rw [lv, HMB.out]
   clear hsz hdep hout qv kv lv
   go_simp
   exact hK _ _ (Ex.refl _) (by rw [hT]; rfl)
  ·rw [if_pos (by rfl)]
   intro K hK
   obtain ⟨v, hv, kv⟩ := hdep ⟨4, .data⟩ (by simp) rfl _ rfl
   have qv := kv _ rfl
   rw [hT] at hv
   obtain rfl : v = .int .i64 (mb : Int) := hv
   clear hsz hdep hout kv
   go_simp
   exact hK _ _ (Ex.refl _) (by rw [hT]; first | (show Value.int .i64 (IntKind.i64.wrap _) = _; rw [IntWalk.i64_in _ (by omega)]; congr 1; omega) | (show Value.int .i64 _ = _; congr 1; omega))
  ·rw [if_pos (by rfl)]
   intro K hK
   obtain ⟨v, hv, kv⟩ := hdep ⟨2, .data⟩ (by simp) rfl _ rfl
   have qv := kv _ rfl
   rw [hT] at hv
   obtain ⟨pv, rfl, lv, iv⟩ := hv
   obtain ⟨u, hu, ku⟩ := hdep ⟨5, .data⟩ (by simp) rfl _ rfl
   have qu := ku _ rfl
   rw [hT] at hu
   obtain rfl : u = .int .i64 (en : Int) := hu
   have q1 : a.tmps[26]?.getD undef = .slice pv.ad mb pv.cap := by rw [← Array.getD_eq_getD_getElem?, qv]; unfold Pt.V; rw [lv, HMB.out]
   have q2 : a.tmps[29]?.getD undef = .int .i64 (en : Int) := by rw [← Array.getD_eq_getD_getElem?]; exact qu
   have hc1 : en ≤ pv.cap := by have := iv.cap; rw [lv, HMB.out] at this; omega
   have PT := Lib.hid (pt_takeV pv en w2 iv (by rw [lv, HMB.out]; omega))
   rw [lv] at PT
   clear hsz hdep hout qv kv qu ku lv
   go_simp
   exact hK _ _ (Ex.refl _) (by rw [hT]; exact ⟨_, (by unfold Pt.V; rw [HTL.out]), rfl, PT.out⟩)
  rw [if_pos (by rfl)]
  intro K hK
  obtain ⟨v, hv, kv⟩ := hdep ⟨0, .data⟩ (by simp) rfl _ rfl
  have qv := kv _ rfl
  rw [hT] at hv
  obtain rfl : v = digV kl := hv
  obtain ⟨u, hu, ku⟩ := hdep ⟨1, .data⟩ (by simp) rfl _ rfl
  have qu := ku _ rfl
  rw [hT] at hu
  obtain rfl : u = .int .u64 n := hu
  obtain ⟨x, hx, kx⟩ := hdep ⟨6, .data⟩ (by simp) rfl _ rfl
  have qx := kx _ rfl
  rw [hT] at hx
  obtain ⟨px, rfl, lx, ix⟩ := hx
  go_simp
  refine (HD1.out w2 _ lx ix).mono ?_
  rintro e w3 ⟨p, rfl, hl, hin, hex⟩
  exact hK _ _ hex (by rw [hT]; exact ⟨p, rfl, hl, hin⟩)
 intro a w2 hx hdef hsz hdone hout
 obtain ⟨sa, hsa, ksa⟩ := hdone 7 _ (by omega) rfl
 have qsa := ksa _ rfl
 rw [hT] at hsa
 obtain ⟨psa, rfl, lsa, isa⟩ := hsa
 clear hdone ksa hT
 have hA := arr_range a.tmps 46 hsz
 change a.tmps = #[a.tmps[0]?.getD undef, a.tmps[1]?.getD undef, a.tmps[2]?.getD undef, a.tmps[3]?.getD undef, a.tmps[4]?.getD undef, a.tmps[5]?.getD undef, a.tmps[6]?.getD undef, a.tmps[7]?.getD undef, a.tmps[8]?.getD undef, a.tmps[9]?.getD undef, a.tmps[10]?.getD undef, a.tmps[11]?.getD undef, a.tmps[12]?.getD undef, a.tmps[13]?.getD undef, a.tmps[14]?.getD undef, a.tmps[15]?.getD undef, a.tmps[16]?.getD undef, a.tmps[17]?.getD undef, a.tmps[18]?.getD undef, a.tmps[19]?.getD undef, a.tmps[20]?.getD undef, a.tmps[21]?.getD undef, a.tmps[22]?.getD undef, a.tmps[23]?.getD undef, a.tmps[24]?.getD undef, a.tmps[25]?.getD undef, a.tmps[26]?.getD undef, a.tmps[27]?.getD undef, a.tmps[28]?.getD undef, a.tmps[29]?.getD undef, a.tmps[30]?.getD undef, a.tmps[31]?.getD undef, a.tmps[32]?.getD undef, a.tmps[33]?.getD undef, a.tmps[34]?.getD undef, a.tmps[35]?.getD undef, a.tmps[36]?.getD undef, a.tmps[37]?.getD undef, a.tmps[38]?.getD undef, a.tmps[39]?.getD undef, a.tmps[40]?.getD undef, a.tmps[41]?.getD undef, a.tmps[42]?.getD undef, a.tmps[43]?.getD undef, a.tmps[44]?.getD undef, a.tmps[45]?.getD undef] at hA
 have e0 := hout 0 oc
 have e1 := hout 1 oc
 have e2 := hout 2 oc
 have e3 := hout 3 oc
 have e4 := hout 4 oc
 have e5 := hout 5 oc
 have e6 := hout 6 oc
 have e7 := hout 7 oc
 have e8 := hout 8 oc
 have e9 := hout 9 oc
 have e11 := hout 11 oc
 have e12 := hout 12 oc
 have e13 := hout 13 oc
 have e14 := hout 14 oc
 have e15 := hout 15 oc
 have e16 := hout 16 oc
 have e17 := hout 17 oc
 have e18 := hout 18 oc
 have e19 := hout 19 oc
 have e20 := hout 20 oc
 have e21 := hout 21 oc
 have e22 := hout 22 oc
 have e23 := hout 23 oc
 have e32 := hout 32 oc
 have e33 := hout 33 oc
 have e34 := hout 34 oc
 have e35 := hout 35 oc
 have e36 := hout 36 oc
 have e37 := hout 37 oc
 have e38 := hout 38 oc
 have e39 := hout 39 oc
 have e40 := hout 40 oc
 have e41 := hout 41 oc
 have e42 := hout 42 oc
 have e43 := hout 43 oc
 have e44 := hout 44 oc
 have e45 := hout 45 oc
 simp only [Array.getD_eq_getD_getElem?, List.getElem?_toArray, List.getElem?_cons_zero, List.getElem?_cons_succ, Option.getD_some] at e0 e1 e2 e3 e4 e5 e6 e7 e8 e9 e11 e12 e13 e14 e15 e16 e17 e18 e19 e20 e21 e22 e23 e32 e33 e34 e35 e36 e37 e38 e39 e40 e41 e42 e43 e44 e45
 rw [e0, e1, e2, e3, e4, e5, e6, e7, e8, e9, e11, e12, e13, e14, e15, e16, e17, e18, e19, e20, e21, e22, e23, e32, e33, e34, e35, e36, e37, e38, e39, e40, e41, e42, e43, e44, e45] at hA
 clear e0 e1 e2 e3 e4 e5 e6 e7 e8 e9 e11 e12 e13 e14 e15 e16 e17 e18 e19 e20 e21 e22 e23 e32 e33 e34 e35 e36 e37 e38 e39 e40 e41 e42 e43 e44 e45 hout
 have hds2 : a.defers = [] := hdef
 have ea : a = ⟨a.tmps, a.defers⟩ := rfl
 have s31 : a.tmps[31]?.getD undef = psa.V := by simpa [Array.getD_eq_getD_getElem?] using qsa
 rw [hA, hds2, s31] at ea
 clear hA hds2 s31 qsa hdef
 generalize a.tmps[24]?.getD undef = y24 at ea
 generalize a.tmps[25]?.getD undef = y25 at ea
 generalize a.tmps[26]?.getD undef = y26 at ea
 generalize a.tmps[27]?.getD undef = y27 at ea
 generalize a.tmps[28]?.getD undef = y28 at ea
 generalize a.tmps[29]?.getD undef = y29 at ea
 generalize a.tmps[30]?.getD undef = y30 at ea
 generalize a.tmps[10]?.getD undef = y10 at ea
 clear hsz
 subst ea
 have bx : Below wr.heap.size wr w2 := Below.trans (Below.refl _ _).drew hx
 unfold wpOp
 simp only [List.getElem?_toArray, List.getElem?_cons_zero, List.getElem?_cons_succ]
 rw [if_pos (by rfl)]
 left
 have HA2 := Lib.hid (HA.out.ext (show Ex wr w2 from bx))
 have hpi2 := Lib.hid (hpi.ext (show Ex wr w2 from bx))
 have hbi2 := Lib.hid (hbi.ext (show Ex wr w2 from bx))
 have bw2 := bw.trans (bx.mono bz)
 have bz2 := bw2.size
 obtain ⟨rv, hrv⟩ : ∃ v, v = psa.V := ⟨_, rfl⟩
 have HRV := Lib.hid hrv
 have HRL := Lib.hid lsa
 have HRI := Lib.hid isa
 rw [← hrv]
 clear HA hpi hbi bw bz bx hx hrv lsa isa
 go_simp
 rw [HRV.out]
 have hpi := hpi2.out
 have hbi := hbi2.out
 have lsa := HRL.out
 have isa := HRI.out
 have HA := HA2
 clear HA2 hpi2 hbi2 HRI HRL
 go_wp2_with fail
 generalize w2 = wr at *
 obtain ⟨T, hT⟩ : ∃ T : List As, T = [.is (digV kl), .is (.int .u64 n), .pt pL, .pt H, .pt M, .is (.string (strL M)), .pt bL, .pt bL, .is (.int .i64 (mb : Int)), .is (.int .i64 (en : Int)), .pt (bL.drop en), .is (.string (strL (bL.drop en)))] := ⟨_, rfl⟩
 refine wp_region_flow 12 (tabPhi T) (by kernel_rfl) rfl (by kernel_rfl) (by kernel_rfl) (by kernel_rfl) (tabPhi_stable T) (fitB_spec (by kernel_rfl)) ?_ ?_
 ·intro i o hi ho
  have hi' : i = 0 ∨ i = 1 ∨ i = 2 ∨ i = 3 ∨ i = 4 ∨ i = 5 ∨ i = 6 ∨ i = 7 ∨ i = 8 ∨ i = 9 ∨ i = 10 ∨ i = 11 := by omega
  rcases hi' with rfl | rfl | rfl | rfl | rfl | rfl | rfl | rfl | rfl | rfl | rfl | rfl
  all_goals (simp only [List.getElem?_toArray, List.getElem?_cons_zero, List.getElem?_cons_succ, Option.some.injEq] at ho; subst ho; intro a w2 hx hsz hdep hout)
  ·rw [if_pos (by rfl)]
   intro K hK
   have f := hout 4 (outB_spec (by kernel_rfl))
   exact wp_ld _ w.heap.size kl rfl f (HA.out.ext (Ex.trans (show Ex wr wr.drew from (Below.refl _ _).drew) hx)) (hK _ _ (Ex.refl _) (by rw [hT]; rfl))
  ·rw [if_pos (by rfl)]
   intro K hK
   have f := hout 1 (outB_spec (by kernel_rfl))
   exact wp_mv _ rfl (hK _ _ (Ex.refl _) (by rw [hT]; exact f))
  ·rw [if_pos (by rfl)]
   intro K hK
   have f := hout 2 (outB_spec (by kernel_rfl))
   exact wp_mv _ rfl (hK _ _ (Ex.refl _) (by rw [hT]; exact ⟨p, f, hpl, hpi.ext (Ex.trans (show Ex wr wr.drew from (Below.refl _ _).drew) hx)⟩))
  ·rw [if_pos (by rfl)]
   intro K hK
   have f := hout 10 (outB_spec (by kernel_rfl))
   exact wp_mv _ rfl (hK _ _ (Ex.refl _) (by rw [hT]; exact ⟨psa, f, lsa, isa.ext (Ex.trans (show Ex wr wr.drew from (Below.refl _ _).drew) hx)⟩))
  ·rw [if_pos (by rfl)]
   intro K hK
   obtain ⟨v, hv, kv⟩ := hdep ⟨0, .data⟩ (by simp) rfl _ rfl
   have qv := kv _ rfl
   rw [hT] at hv
   obtain rfl : v = digV kl := hv
   obtain ⟨u, hu, ku⟩ := hdep ⟨1, .data⟩ (by simp) rfl _ rfl
   have qu := ku _ rfl
   rw [hT] at hu
   obtain rfl : u = .int .u64 n := hu
   obtain ⟨x, hx, kx⟩ := hdep ⟨2, .data⟩ (by simp) rfl _ rfl
   have qx := kx _ rfl
   rw [hT] at hx
   obtain ⟨px, rfl, lx, ix⟩ := hx
   obtain ⟨y, hy, ky⟩ := hdep ⟨3, .data⟩ (by simp) rfl _ rfl
   have qy := ky _ rfl
   rw [hT] at hy
   obtain ⟨py, rfl, ly, iy⟩ := hy
   go_simp
   refine (MK.out w2 _ _ lx ly ix iy).mono ?_
   rintro e w3 ⟨p, rfl, hl, hin, hex⟩
   exact hK _ _ hex (by rw [hT]; exact ⟨p, rfl, hl, hin⟩)
  ·rw [if_pos (by rfl)]
   intro K hK
   obtain ⟨v, hv, kv⟩ := hdep ⟨4, .data⟩ (by simp) rfl _ rfl
   have qv := kv _ rfl
   rw [hT] at hv
   obtain ⟨pv, rfl, lv, iv⟩ := hv
   have cv := pt_conv pv w2 iv
   rw [lv] at cv
   have q : a.tmps[36]?.getD undef = .slice pv.ad (M).length pv.cap := by rw [← Array.getD_eq_getD_getElem?, qv]; unfold Pt.V; rw [lv]
   generalize (M).length = nn at cv q
   clear hsz hdep hout qv kv lv
   go_simp
   exact hK _ _ (Ex.refl _) (by rw [hT]; rfl)
  ·rw [if_pos (by rfl)]
   intro K hK
   have f := hout 3 (outB_spec (by kernel_rfl))
   exact wp_mv _ rfl (hK _ _ (Ex.refl _) (by rw [hT]; exact ⟨b, f, hbl, hbi.ext (Ex.trans (show Ex wr wr.drew from (Below.refl _ _).drew) hx)⟩))
  ·rw [if_pos (by rfl)]
   intro K hK
   have f := hout 3 (outB_spec (by kernel_rfl))
   exact wp_mv _ rfl (hK _ _ (Ex.refl _) (by rw [hT]; exact ⟨b, f, hbl, hbi.ext (Ex.trans (show Ex wr wr.drew from (Below.refl _ _).drew) hx)⟩))
  ·rw [if_pos (by rfl)]
   intro K hK
   obtain ⟨v, hv, kv⟩ := hdep ⟨7, .data⟩ (by simp) rfl _ rfl
   have qv := kv _ rfl
   rw [hT] at hv
   obtain ⟨pv, rfl, lv, iv⟩ := hv
   have q : a.tmps[39]?.getD undef = .slice pv.ad mb pv.cap := by rw [← Array.getD_eq_getD_getElem?, qv]; unfold Pt.V; rw [lv, HMB.out]
   clear hsz hdep hout qv kv lv
   go_simp
   exact hK _ _ (Ex.refl _) (by rw [hT]; rfl)
  ·rw [if_pos (by rfl)]
   intro K hK
   obtain ⟨v, hv, kv⟩ := hdep ⟨8, .data⟩ (by simp) rfl _ rfl
   have qv := kv _ rfl
   rw [hT] at hv
   obtain rfl : v = .int .i64 (mb : Int) := hv
   clear hsz hdep hout kv
   go_simp
   exact hK _ _ (Ex.refl _) (by rw [hT]; first | (show Value.int .i64 (IntKind.i64.wrap _) = _; rw [IntWalk.i64_in _ (by omega)]; congr 1; omega) | (show Value.int .i64 _ = _; congr 1; omega))
  ·rw [if_pos (by rfl)]
   intro K hK
   obtain ⟨v, hv, kv⟩ := hdep ⟨6, .data⟩ (by simp) rfl _ rfl
   have qv := kv _ rfl
   rw [hT] at hv
   obtain ⟨pv, rfl, lv, iv⟩ := hv
   obtain ⟨u, hu, ku⟩ := hdep ⟨9, .data⟩ (by simp) rfl _ rfl
   have qu := ku _ rfl
   rw [hT] at hu
   obtain rfl : u = .int .i64 (en : Int) := hu
   obtain ⟨a', o', e', ha', hcc⟩ := iv.read (by rw [lv, HMB.out]; omega)
   have hcap := iv.cap
   rw [lv, HMB.out] at hcap
   have q1 : a.tmps[38]?.getD undef = .slice (some ⟨a', o', none⟩) mb pv.cap := by rw [← Array.getD_eq_getD_getElem?, qv]; unfold Pt.V; rw [lv, HMB.out, e']
   have q2 : a.tmps[41]?.getD undef = .int .i64 (en : Int) := by rw [← Array.getD_eq_getD_getElem?]; exact qu
   have PT : Hid ((Pt.mk (some ⟨a', o' + en, none⟩) (pv.cap - en) (bL.drop en)).In w2 w2.heap.size) := Lib.hid ⟨by show (bL.drop en).length ≤ pv.cap - en; rw [HDL.out]; omega, (fun h => by cases h), fun _ => ⟨a', o' + en, rfl, ha', fun i hi => by
   have hi2 : i < (bL.drop en).length := hi
   rw [HDL.out] at hi2
   rw [Nat.add_assoc, hcc (en + i) (by rw [lv, HMB.out]; omega), lv]
   simp [List.getD, List.getElem?_drop]⟩⟩
   have hne : en ≠ pv.cap := by omega
   have hlm : en ≤ mb := by omega
   clear hcc iv lv hsz hdep hout qv kv qu ku
   go_simp
   try rw [if_neg (show ¬ pv.cap = en by omega)]
   try rw [show mb - en = 8 by omega]
   try rw [if_pos hlm]
   exact hK _ _ (Ex.refl _) (by rw [hT]; exact ⟨⟨some ⟨a', o' + en, none⟩, pv.cap - en, bL.drop en⟩, (by unfold Pt.V; simp only [HDL.out]), rfl, PT.out⟩)
  rw [if_pos (by rfl)]
  intro K hK
  obtain ⟨v, hv, kv⟩ := hdep ⟨10, .data⟩ (by simp) rfl _ rfl
  have qv := kv _ rfl
  rw [hT] at hv
  obtain ⟨pv, rfl, lv, iv⟩ := hv
  have cv := pt_conv pv w2 iv
  rw [lv] at cv
  have q : a.tmps[42]?.getD undef = .slice pv.ad ((bL.drop en)).length pv.cap := by rw [← Array.getD_eq_getD_getElem?, qv]; unfold Pt.V; rw [lv]
  generalize ((bL.drop en)).length = nn at cv q
  clear hsz hdep hout qv kv lv
  go_simp
  exact hK _ _ (Ex.refl _) (by rw [hT]; rfl)
 intro a w2 hx hdef hsz hdone hout
 obtain ⟨v, hv, kv⟩ := hdone 5 _ (by omega) rfl
 have qv := kv _ rfl
 rw [hT] at hv
 obtain rfl : v = .string (strL M) := hv
 obtain ⟨u, hu, ku⟩ := hdone 11 _ (by omega) rfl
 have qu := ku _ rfl
 rw [hT] at hu
 obtain rfl : u = .string (strL (bL.drop en)) := hu
 clear hdone kv ku hT
 have hA := arr_range a.tmps 46 hsz
 change a.tmps = #[a.tmps[0]?.getD undef, a.tmps[1]?.getD undef, a.tmps[2]?.getD undef, a.tmps[3]?.getD undef, a.tmps[4]?.getD undef, a.tmps[5]?.getD undef, a.tmps[6]?.getD undef, a.tmps[7]?.getD undef, a.tmps[8]?.getD undef, a.tmps[9]?.getD undef, a.tmps[10]?.getD undef, a.tmps[11]?.getD undef, a.tmps[12]?.getD undef, a.tmps[13]?.getD undef, a.tmps[14]?.getD undef, a.tmps[15]?.getD undef, a.tmps[16]?.getD undef, a.tmps[17]?.getD undef, a.tmps[18]?.getD undef, a.tmps[19]?.getD undef, a.tmps[20]?.getD undef, a.tmps[21]?.getD undef, a.tmps[22]?.getD undef, a.tmps[23]?.getD undef, a.tmps[24]?.getD undef, a.tmps[25]?.getD undef, a.tmps[26]?.getD undef, a.tmps[27]?.getD undef, a.tmps[28]?.getD undef, a.tmps[29]?.getD undef, a.tmps[30]?.getD undef, a.tmps[31]?.getD undef, a.tmps[32]?.getD undef, a.tmps[33]?.getD undef, a.tmps[34]?.getD undef, a.tmps[35]?.getD undef, a.tmps[36]?.getD undef, a.tmps[37]?.getD undef, a.tmps[38]?.getD undef, a.tmps[39]?.getD undef, a.tmps[40]?.getD undef, a.tmps[41]?.getD undef, a.tmps[42]?.getD undef, a.tmps[43]?.getD undef, a.tmps[44]?.getD undef, a.tmps[45]?.getD undef] at hA
 have e0 := hout 0 oc
 have e1 := hout 1 oc
 have e2 := hout 2 oc
 have e3 := hout 3 oc
 have e4 := hout 4 oc
 have e5 := hout 5 oc
 have e6 := hout 6 oc
 have e7 := hout 7 oc
 have e8 := hout 8 oc
 have e9 := hout 9 oc
 have e10 := hout 10 oc
 have e11 := hout 11 oc
 have e12 := hout 12 oc
 have e13 := hout 13 oc
 have e14 := hout 14 oc
 have e15 := hout 15 oc
 have e16 := hout 16 oc
 have e17 := hout 17 oc
 have e18 := hout 18 oc
 have e19 := hout 19 oc
 have e20 := hout 20 oc
 have e21 := hout 21 oc
 have e22 := hout 22 oc
 have e23 := hout 23 oc
 have e24 := hout 24 oc
 have e25 := hout 25 oc
 have e26 := hout 26 oc
 have e27 := hout 27 oc
 have e28 := hout 28 oc
 have e29 := hout 29 oc
 have e30 := hout 30 oc
 have e31 := hout 31 oc
 have e45 := hout 45 oc
 simp only [Array.getD_eq_getD_getElem?, List.getElem?_toArray, List.getElem?_cons_zero, List.getElem?_cons_succ, Option.getD_some] at e0 e1 e2 e3 e4 e5 e6 e7 e8 e9 e10 e11 e12 e13 e14 e15 e16 e17 e18 e19 e20 e21 e22 e23 e24 e25 e26 e27 e28 e29 e30 e31 e45
 rw [e0, e1, e2, e3, e4, e5, e6, e7, e8, e9, e10, e11, e12, e13, e14, e15, e16, e17, e18, e19, e20, e21, e22, e23, e24, e25, e26, e27, e28, e29, e30, e31, e45] at hA
 clear e0 e1 e2 e3 e4 e5 e6 e7 e8 e9 e10 e11 e12 e13 e14 e15 e16 e17 e18 e19 e20 e21 e22 e23 e24 e25 e26 e27 e28 e29 e30 e31 e45 hout
 have hds2 : a.defers = [] := hdef
 have ea : a = ⟨a.tmps, a.defers⟩ := rfl
 have s37 : a.tmps[37]?.getD undef = .string (strL M) := by simpa [Array.getD_eq_getD_getElem?] using qv
 have s43 : a.tmps[43]?.getD undef = .string (strL (bL.drop en)) := by simpa [Array.getD_eq_getD_getElem?] using qu
 rw [hA, hds2, s37, s43] at ea
 clear hA hds2 s37 qv s43 qu hdef
 generalize a.tmps[32]?.getD undef = y32 at ea
 generalize a.tmps[33]?.getD undef = y33 at ea
 generalize a.tmps[34]?.getD undef = y34 at ea
 generalize a.tmps[35]?.getD undef = y35 at ea
 generalize a.tmps[36]?.getD undef = y36 at ea
 generalize a.tmps[38]?.getD undef = y38 at ea
 generalize a.tmps[39]?.getD undef = y39 at ea
 generalize a.tmps[40]?.getD undef = y40 at ea
 generalize a.tmps[41]?.getD undef = y41 at ea
 generalize a.tmps[42]?.getD undef = y42 at ea
 generalize a.tmps[44]?.getD undef = y44 at ea
 clear hsz
 subst ea
 have bx : Below wr.heap.size wr w2 := Below.trans (Below.refl _ _).drew hx
 unfold wpOp
 simp only [List.getElem?_toArray, List.getElem?_cons_zero, List.getElem?_cons_succ]
 rw [if_pos (by rfl)]
 left
 have hri5 := Lib.hid (isa.ext (show Ex wr w2 from bx))
 have HRL5 := Lib.hid lsa
 have bw5 := bw2.trans (bx.mono bz2)
 have HRV5 : Hid (psa.V = rv) := Lib.hid HRV.out.symm
 rw [HRV5.out]
 have HE : ((strL M).toList == (strL (bL.drop en)).toList) = bq := by
  rw [toList_beq, ← HBQ.out]; exact decide_eq_decide.2 (strL_eq _ _)
 clear HA hpi hbi bw2 bz2 bx hx lsa isa
 generalize strL M = s1 at HE ⊢
 generalize strL (bL.drop en) = s2 at HE ⊢
 have hRR := HR2.out
 cases bq with
 | true =>
  obtain rfl : R = some H := hRR
  go_simp
  go_wp2_with fail
  go_ret2
  exact ⟨psa, by show Ending.returned (.tuple #[rv, .int .i64 0]) = _; rw [HRV5.out], HRL5.out, hri5.out, bw5⟩
 | false =>
  obtain rfl : R = none := hRR
  go_simp
  go_wp2_with fail
  go_ret2
  exact ⟨rfl, bw5⟩
end Go.Proofs.Ytopamplmpfndlaa.Sm
namespace Go.Proofs.Ytopamplmpfndlaa.Sm
open Go.RowKit
end Go.Proofs.Ytopamplmpfndlaa.Sm
