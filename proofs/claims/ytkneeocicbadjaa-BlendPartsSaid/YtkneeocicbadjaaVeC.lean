/- walks: veil.Seal -/
import Derived.Test.YtkneeocicbadjaaVeB
import Derived.Test.YtkneeocicbadjaaFlC
namespace Go.Proofs.Ytkneeocicbadjaa
open Go.RowKit
def sealL (kl : List UInt8) (n : Int) (A t : List UInt8) : List UInt8 := hidL (streamL kl n t.length) t ++ markL kl n A t
set_option maxHeartbeats 4000000 in
set_option maxRecDepth 100000 in
theorem seal_any (kl : List UInt8) (hkll : kl.length = 16) (n : Int) (n0 : 0 ≤ n) (n1 : n < 18446744073709551616) (p q : Pt) (w : World) (hp : p.In w w.heap.size) (hq : q.In w w.heap.size) (hpm : p.l.length ≤ 8192) (hqm : q.l.length ≤ 8184) :
    Calls Try.prog 43 #[digV kl, .int .u64 n, p.V, q.V] w (PtPost (sealL kl n p.l q.l) w) := by
  obtain ⟨cs, hcs⟩ : ∃ cs, cs = (Lib.byteCells kl).toArray := ⟨_, rfl⟩
  have hv : digV kl = .agg cs := by rw [hcs]; rfl
  have HA : Hid (DB (w.alloc (.cells cs 24)) w.heap.size kl) := by rw [hcs]; exact Lib.hid (DB.new rfl hkll)
  have bw : Below w.heap.size w (w.alloc (.cells cs 24)) := (Below.refl _ _).alloc (Nat.le_refl _) _
  have bz : w.heap.size ≤ (w.alloc (.cells cs 24)).heap.size := bw.size
  obtain ⟨mp, hmp⟩ : ∃ m, m = p.l.length := ⟨_, rfl⟩
  obtain ⟨mq, hmq⟩ : ∃ m, m = q.l.length := ⟨_, rfl⟩
  obtain ⟨pL, hpl'⟩ : ∃ x, x = p.l := ⟨_, rfl⟩
  obtain ⟨qL, hql'⟩ : ∃ x, x = q.l := ⟨_, rfl⟩
  obtain ⟨Hd, hHd⟩ : ∃ x, x = hidL (streamL kl n q.l.length) q.l := ⟨_, rfl⟩
  obtain ⟨M, hM⟩ : ∃ x, x = markL kl n p.l q.l := ⟨_, rfl⟩
  have hR : sealL kl n p.l q.l = Hd ++ M := by unfold sealL; rw [hHd, hM]
  have HHl := Lib.hid (show Hd.length = mq by rw [hHd, hidL_len, strm_len, hmq])
  have HMl := Lib.hid (show M.length = 8 by rw [hM, markL_len])
  have HD1 := Lib.hid (show ∀ (W : World) (r : Pt), r.l = qL → r.In W W.heap.size → Calls Try.prog 68 #[digV kl, .int .u64 n, r.V] W (OwnPost Hd W) from fun W r hr hi => by
    have h := hidden_any kl hkll n n0 n1 r W hi (by rw [hr, hql', ← hmq]; omega)
    rw [hr, hql', ← hHd] at h; exact h)
  have MK := Lib.hid (show ∀ (W : World) (r t : Pt), r.l = pL → t.l = qL → r.In W W.heap.size → t.In W W.heap.size → Calls Try.prog 69 #[digV kl, .int .u64 n, r.V, t.V] W (PtPost M W) from fun W r t hr ht hi hj => by
    have h := mark_any kl hkll n n0 n1 r t W hi hj (by rw [hr, hpl', ← hmp]; omega) (by rw [ht, hql', ← hmq]; omega)
    rw [hr, ht, hpl', hql', ← hM] at h; exact h)
  have hpi := hp.ext bw
  have hqi := hq.ext bw
  have hpl : p.l = pL := hpl'.symm
  have hql : q.l = qL := hql'.symm
  have hpv : p.V = .slice p.ad mp p.cap := by unfold Pt.V; rw [hmp]
  have hqv : q.V = .slice q.ad mq q.cap := by unfold Pt.V; rw [hmq]
  rw [← hmp] at hpm
  rw [← hmq] at hqm
  have HPV := Lib.hid hpv
  have HQV := Lib.hid hqv
  rw [hv, hpv, hqv, hR]
  clear hv hcs hmp hmq hpl' hql' hHd hM hR hp hq hpv hqv
  go_enter Try.func43, Try.ntmps43
  go_wp2_with fail
  generalize w.alloc (.cells cs 24) = wr at *
  rw [← HPV.out, ← HQV.out]
  obtain ⟨T, hT⟩ : ∃ T : List As2, T = [.is (digV kl), .is (.int .u64 n), .pt qL, .own w.heap.size Hd, .is (digV kl), .is (.int .u64 n), .pt pL, .pt qL, .pt M] := ⟨_, rfl⟩
  refine wp_region_flow2 9 (tabPhi2 T) (by kernel_rfl) rfl (by kernel_rfl) (by kernel_rfl) (by kernel_rfl) (by kernel_rfl) (tabPhi2_stable T) (fitB_spec (by kernel_rfl)) ?_ ?_
  · intro i o hi ho
    have hi' : i = 0 ∨ i = 1 ∨ i = 2 ∨ i = 3 ∨ i = 4 ∨ i = 5 ∨ i = 6 ∨ i = 7 ∨ i = 8 := by omega
    rcases hi' with rfl | rfl | rfl | rfl | rfl | rfl | rfl | rfl | rfl
    all_goals (simp only [List.getElem?_toArray, List.getElem?_cons_zero, List.getElem?_cons_succ, Option.some.injEq] at ho; subst ho; intro a w2 hx hsz hdep hout)
    · rw [if_pos (by rfl)]
      intro K hK
      have f := hout 4 (outB_spec (by kernel_rfl))
      exact wp_ld _ w.heap.size kl rfl f (HA.out.ext (Ex.trans (show Ex wr wr.drew from (Below.refl _ _).drew) hx)) (hK _ _ (Ex.refl _) (by rw [hT]; rfl))
    · rw [if_pos (by rfl)]
      intro K hK
      have f := hout 1 (outB_spec (by kernel_rfl))
      exact wp_mv _ rfl (hK _ _ (Ex.refl _) (by rw [hT]; exact f))
    · rw [if_pos (by rfl)]
      intro K hK
      have f := hout 3 (outB_spec (by kernel_rfl))
      exact wp_mv _ rfl (hK _ _ (Ex.refl _) (by rw [hT]; exact ⟨q, f, hql, hqi.ext (Ex.trans (show Ex wr wr.drew from (Below.refl _ _).drew) hx)⟩))
    · rw [if_pos (by rfl)]
      intro K hK
      obtain ⟨v, hv, kv⟩ := hdep ⟨0, .data⟩ (by simp) rfl _ rfl
      have qv := kv _ rfl
      rw [hT] at hv
      obtain rfl : v = digV kl := hv
      obtain ⟨u, hu, ku⟩ := hdep ⟨1, .data⟩ (by simp) rfl _ rfl
      have qu := ku _ rfl
      rw [hT] at hu
      obtain rfl : u = .int .u64 n := hu
      obtain ⟨x, hx, kx⟩ := hdep ⟨2, .data⟩ (by simp) rfl _ rfl
      have qx := kx _ rfl
      rw [hT] at hx
      obtain ⟨px, rfl, lx, ix⟩ := hx
      go_simp
      refine (HD1.out w2 _ lx ix).mono ?_
      rintro e w3 ⟨x9, rfl, ho9, hex⟩
      exact hK _ _ hex (by rw [hT]; exact own_less ho9 (show w.heap.size ≤ _ from Nat.le_trans bz (Nat.le_trans hx.size (Nat.le_refl _))))
    · rw [if_pos (by rfl)]
      intro K hK
      have f := hout 4 (outB_spec (by kernel_rfl))
      exact wp_ld _ w.heap.size kl rfl f (HA.out.ext (Ex.trans (show Ex wr wr.drew from (Below.refl _ _).drew) hx)) (hK _ _ (Ex.refl _) (by rw [hT]; rfl))
    · rw [if_pos (by rfl)]
      intro K hK
      have f := hout 1 (outB_spec (by kernel_rfl))
      exact wp_mv _ rfl (hK _ _ (Ex.refl _) (by rw [hT]; exact f))
    · rw [if_pos (by rfl)]
      intro K hK
      have f := hout 2 (outB_spec (by kernel_rfl))
      exact wp_mv _ rfl (hK _ _ (Ex.refl _) (by rw [hT]; exact ⟨p, f, hpl, hpi.ext (Ex.trans (show Ex wr wr.drew from (Below.refl _ _).drew) hx)⟩))
    · rw [if_pos (by rfl)]
      intro K hK
      have f := hout 3 (outB_spec (by kernel_rfl))
      exact wp_mv _ rfl (hK _ _ (Ex.refl _) (by rw [hT]; exact ⟨q, f, hql, hqi.ext (Ex.trans (show Ex wr wr.drew from (Below.refl _ _).drew) hx)⟩))
    · rw [if_pos (by rfl)]
      intro K hK
      obtain ⟨v, hv, kv⟩ := hdep ⟨4, .data⟩ (by simp) rfl _ rfl
      have qv := kv _ rfl
      rw [hT] at hv
      obtain rfl : v = digV kl := hv
      obtain ⟨u, hu, ku⟩ := hdep ⟨5, .data⟩ (by simp) rfl _ rfl
      have qu := ku _ rfl
      rw [hT] at hu
      obtain rfl : u = .int .u64 n := hu
      obtain ⟨x, hx, kx⟩ := hdep ⟨6, .data⟩ (by simp) rfl _ rfl
      have qx := kx _ rfl
      rw [hT] at hx
      obtain ⟨px, rfl, lx, ix⟩ := hx
      obtain ⟨y, hy, ky⟩ := hdep ⟨7, .data⟩ (by simp) rfl _ rfl
      have qy := ky _ rfl
      rw [hT] at hy
      obtain ⟨py, rfl, ly, iy⟩ := hy
      go_simp
      refine (MK.out w2 _ _ lx ly ix iy).mono ?_
      rintro e w3 ⟨p, rfl, hl, hin, hex⟩
      exact hK _ _ hex (by rw [hT]; exact ⟨p, rfl, hl, hin⟩)
  · intro a w2 hx hdef hsz hdone hout
    obtain ⟨v, hv, kv⟩ := hdone 3 _ (by omega) rfl
    have qv := kv _ rfl
    rw [hT] at hv
    have hv : ownU w2 w.heap.size v Hd := hv
    obtain ⟨u, hu, ku⟩ := hdone 8 _ (by omega) rfl
    have qu := ku _ rfl
    rw [hT] at hu
    obtain ⟨pu, rfl, lu, iu⟩ := hu
    clear hdone kv ku hT
    have hA := arr_range a.tmps 27 hsz
    change a.tmps = #[a.tmps[0]?.getD undef, a.tmps[1]?.getD undef, a.tmps[2]?.getD undef, a.tmps[3]?.getD undef, a.tmps[4]?.getD undef, a.tmps[5]?.getD undef, a.tmps[6]?.getD undef, a.tmps[7]?.getD undef, a.tmps[8]?.getD undef, a.tmps[9]?.getD undef, a.tmps[10]?.getD undef, a.tmps[11]?.getD undef, a.tmps[12]?.getD undef, a.tmps[13]?.getD undef, a.tmps[14]?.getD undef, a.tmps[15]?.getD undef, a.tmps[16]?.getD undef, a.tmps[17]?.getD undef, a.tmps[18]?.getD undef, a.tmps[19]?.getD undef, a.tmps[20]?.getD undef, a.tmps[21]?.getD undef, a.tmps[22]?.getD undef, a.tmps[23]?.getD undef, a.tmps[24]?.getD undef, a.tmps[25]?.getD undef, a.tmps[26]?.getD undef] at hA
    have e0 := hout 0 (fun i o _ h => outB_spec (by kernel_rfl) i o h)
    have e1 := hout 1 (fun i o _ h => outB_spec (by kernel_rfl) i o h)
    have e2 := hout 2 (fun i o _ h => outB_spec (by kernel_rfl) i o h)
    have e3 := hout 3 (fun i o _ h => outB_spec (by kernel_rfl) i o h)
    have e4 := hout 4 (fun i o _ h => outB_spec (by kernel_rfl) i o h)
    have e5 := hout 5 (fun i o _ h => outB_spec (by kernel_rfl) i o h)
    have e6 := hout 6 (fun i o _ h => outB_spec (by kernel_rfl) i o h)
    have e7 := hout 7 (fun i o _ h => outB_spec (by kernel_rfl) i o h)
    have e9 := hout 9 (fun i o _ h => outB_spec (by kernel_rfl) i o h)
    have e10 := hout 10 (fun i o _ h => outB_spec (by kernel_rfl) i o h)
    have e11 := hout 11 (fun i o _ h => outB_spec (by kernel_rfl) i o h)
    have e12 := hout 12 (fun i o _ h => outB_spec (by kernel_rfl) i o h)
    have e13 := hout 13 (fun i o _ h => outB_spec (by kernel_rfl) i o h)
    have e14 := hout 14 (fun i o _ h => outB_spec (by kernel_rfl) i o h)
    have e15 := hout 15 (fun i o _ h => outB_spec (by kernel_rfl) i o h)
    have e16 := hout 16 (fun i o _ h => outB_spec (by kernel_rfl) i o h)
    simp only [Array.getD_eq_getD_getElem?, List.getElem?_toArray, List.getElem?_cons_zero, List.getElem?_cons_succ, Option.getD_some] at e0 e1 e2 e3 e4 e5 e6 e7 e9 e10 e11 e12 e13 e14 e15 e16
    rw [e0, e1, e2, e3, e4, e5, e6, e7, e9, e10, e11, e12, e13, e14, e15, e16] at hA
    clear e0 e1 e2 e3 e4 e5 e6 e7 e9 e10 e11 e12 e13 e14 e15 e16 hout
    have hds2 : a.defers = [] := hdef
    have ea : a = ⟨a.tmps, a.defers⟩ := rfl
    have s20 : a.tmps[20]?.getD undef = v := by simpa [Array.getD_eq_getD_getElem?] using qv
    have s25 : a.tmps[25]?.getD undef = pu.V := by simpa [Array.getD_eq_getD_getElem?] using qu
    rw [hA, hds2, s20, s25] at ea
    clear hA hds2 s20 qv s25 qu hdef
    generalize a.tmps[17]?.getD undef = y17 at ea
    generalize a.tmps[18]?.getD undef = y18 at ea
    generalize a.tmps[19]?.getD undef = y19 at ea
    generalize a.tmps[21]?.getD undef = y21 at ea
    generalize a.tmps[22]?.getD undef = y22 at ea
    generalize a.tmps[23]?.getD undef = y23 at ea
    generalize a.tmps[24]?.getD undef = y24 at ea
    generalize a.tmps[26]?.getD undef = y26 at ea
    generalize a.tmps[8]?.getD undef = y8 at ea
    clear hsz
    subst ea
    have bx : Below wr.heap.size wr w2 := Below.trans (Below.refl _ _).drew hx
    refine wpOp_do rfl (by rfl) ?_
    rw [← lu] at HMl
    refine wp_app_own (.tmp 20) (.tmp 25) rfl w.heap.size v Hd pu rfl rfl hv iu (by have := hx.size; have := bz; exact Nat.le_trans bz bx.size) (by rw [HHl.out, HMl.out]; omega) (by rw [HMl.out]; omega) ?_
    intro v' w' ow' b'
    refine wpOp_do rfl (by rfl) ?_
    refine wp_asg2 _ rfl ?_
    have bw3 : Below w.heap.size w w' := Below.trans (Below.trans bw (bx.mono bz)) b'
    obtain ⟨r, rfl, rl, ri⟩ := own_pt0 ow'
    obtain ⟨rv, hrv⟩ : ∃ x, x = r.V := ⟨_, rfl⟩
    rw [← hrv]
    have HRV := Lib.hid hrv
    have RL := Lib.hid rl
    have RI := Lib.hid ri
    rw [lu] at RL
    clear hrv rl ri ow' b' bx hx hv iu lu HMl HHl
    go_simp
    go_wp2_with fail
    go_ret
    exact ⟨r, by show Ending.returned rv = _; rw [HRV.out], RL.out, RI.out, bw3⟩
end Go.Proofs.Ytkneeocicbadjaa
