/- MBlH -/
import Derived.Test.YtopamplmpfndlaaEal
set_option maxRecDepth 100000
set_option maxHeartbeats 16000000
namespace Go.Proofs.Ytopamplmpfndlaa.Sm
open Go.RowKit
theorem rstream_any (kl : List UInt8) (hk : kl.length = 16) (n : Int) (n0 : 0 ≤ n) (n1 : n < 18446744073709551616) (m : Nat) (hm : m ≤ 8192) (w : World) :
  Calls Try.prog 145 #[digV kl, .int .u64 n, .int .i64 m] w (PtPost (streamL kl n m) w) := by
 obtain ⟨cs, hcs⟩ : ∃ cs, cs = Lib.byteCells kl := ⟨_, rfl⟩
 have hv : digV kl = .agg cs.toArray := by rw [hcs]; rfl
 have hcl : cs.length = 16 := by rw [hcs]; simp [Lib.byteCells, hk]
 have KY := Lib.hid (fun (W : World) (p : Pt) (h : p.In W W.heap.size) (hm : p.l.length ≤ 90000000000000) => rkeyed_any kl hk p W h hm)
 have hi5 := Lib.hid (show (Try.prog.info? 36).map (·.size) = some cs.length by rw [sm_dsize, hcl])
 obtain ⟨dd, hd⟩ : ∃ d, Try.prog.underlying 36 = some d ∧ d.isRow = true := ⟨_, Try.underlying36, rfl⟩
 have HD := Lib.hid hd
 rw [hv] at KY ⊢
 have hrg := Lib.hid ((Bk.new (w := w) rfl 36 cs.toArray).range)
 have bs := (Below.refl w.heap.size w).alloc (Nat.le_refl _) (.cells cs.toArray 36)
 have HCL := Lib.hid hcl
 have HCS := Lib.hid hcs
 clear hv hd hcl hcs
 go_enter Try.func145, Try.ntmps145
 go_wp2_with fail
 go_loopw [7, 8] (fun v i wr => ∃ j : Nat, 16 * j ≤ m + 15 ∧ i = .int .u64 j ∧ Hid (ownU wr (w.heap.size + 1) v (strB kl n j)) ∧ Hid (wr.rangeAt w.heap.size 0 cs) ∧ Below w.heap.size w wr ∧ w.heap.size + 1 ≤ wr.heap.size) (fun _ i _ => m + 16 - 16 * (intOf i).toNat)
 case atStart => exact ⟨0, by omega, rfl, Lib.hid (World.ownsRow_nil _ _ _ _), hrg, bs, by simp⟩
 clear hrg bs
 obtain ⟨j, hj, rfl, own, hrg, bw, hz⟩ := hrel
 obtain ⟨q, rfl, hql, hqi, _⟩ := own_pt own.out
 have hlen : q.l.length = 16 * j := by rw [hql, strB_len]
 obtain ⟨ln, hln⟩ : ∃ x, x = q.l.length := ⟨_, rfl⟩
 have hqv : q.V = .slice q.ad ln q.cap := by rw [hln]; rfl
 rw [← hln] at hlen
 have HLN := Lib.hid hlen
 have hcap : ln ≤ q.cap := by rw [hln]; exact hqi.cap
 have HQV := Lib.hid hqv
 have HQI := Lib.hid hqi
 have HQL := Lib.hid hql
 rw [hqv]
 clear hln hqv hqi hql
 by_cases hlt : ln < m
 rotate_left
 ·clear hlen
  have hlm : m ≤ ln := by omega
  have hmc : m ≤ q.cap := by omega
  go_wp2_with fail
  go_ret
  have hj2 : j = (m + 15) / 16 := by have := HLN.out; omega
  have hsl : streamL kl n m = q.l.take m := by unfold streamL; rw [HQL.out, hj2]
  have hlen : q.l.length = ln := by rw [HQL.out, strB_len, HLN.out]
  have hsz : (streamL kl n m).length = m := by rw [hsl, List.length_take]; omega
  refine ⟨⟨q.ad, q.cap, streamL kl n m⟩, ?_, rfl, ?_, bw⟩
  ·unfold Pt.V; simp only [hsz]; rfl
  refine ⟨by simp only [hsz]; exact hmc, HQI.out.nil, fun h => ?_⟩
  simp only [hsz] at h ⊢
  obtain ⟨a, o, e, ha, hc⟩ := HQI.out.read (by omega)
  refine ⟨a, o, e, ha, fun i hi => ?_⟩
  rw [hc i (by omega), hsl]
  simp [List.getD, List.getElem?_take, hi]
 clear hlen
 go_wp2_with fail
 obtain ⟨T, hT⟩ : ∃ T : List As, T = [.is (.agg cs.toArray), .is (.int .u64 n), .full (numL n), .is (.int .u64 j), .pt (numL (j : Int)), .pt (numL n ++ numL (j : Int)), .is (digV (sumL (kl ++ (numL n ++ numL (j : Int))))), .blk wr.heap.size 36 zero16] := ⟨_, rfl⟩
 refine wp_region_flow 8 (tabPhi T) (by kernel_rfl) rfl (by kernel_rfl) (by kernel_rfl) (by kernel_rfl) (tabPhi_stable T) (fitB_spec (by kernel_rfl)) ?_ ?_
 ·intro i o hi ho
  have hi' : i = 0 ∨ i = 1 ∨ i = 2 ∨ i = 3 ∨ i = 4 ∨ i = 5 ∨ i = 6 ∨ i = 7 := by omega
  rcases hi' with rfl | rfl | rfl | rfl | rfl | rfl | rfl | rfl
  all_goals (simp only [List.getElem?_toArray, List.getElem?_cons_zero, List.getElem?_cons_succ, Option.some.injEq] at ho; subst ho; intro a w2 hx hsz hdep hout; rw [if_pos (by rfl)]; intro K hK)
  ·have f3 := hout 3 (outB_spec (by kernel_rfl))
   exact wp_load_mid 36 _ rfl w.heap.size 0 f3 cs dd (fun x v hv => (hx.cell (p := ⟨w.heap.size, 0 + x, none⟩) (by show w.heap.size < wr.heap.size; omega)).trans (hrg.out x v hv)) HD.out.1 HD.out.2 hi5.out (hK _ _ (Ex.refl _) (by rw [hT]; rfl))
  ·have f1 := hout 1 (outB_spec (by kernel_rfl))
   exact wp_mv _ rfl (hK _ _ (Ex.refl _) (by rw [hT]; exact f1))
  ·obtain ⟨v, hv, h2⟩ := hdep ⟨1, .data⟩ (by simp) rfl _ rfl
   have h3 := h2 _ rfl
   rw [hT] at hv
   obtain rfl : v = .int .u64 n := hv
   go_simp
   refine (rnumberF n (by omega) (by omega) w2).mono ?_
   rintro e w3 ⟨p, rfl, hl, hc, hin, hex⟩
   exact hK _ _ hex (by rw [hT]; exact ⟨p, rfl, hl, hc, hin⟩)
  ·have f8 := hout 8 (outB_spec (by kernel_rfl))
   exact wp_mv _ rfl (hK _ _ (Ex.refl _) (by rw [hT]; exact f8))
  ·obtain ⟨v, hv, h2⟩ := hdep ⟨3, .data⟩ (by simp) rfl _ rfl
   have h3 := h2 _ rfl
   rw [hT] at hv
   obtain rfl : v = .int .u64 (j : Int) := hv
   go_simp
   refine (rnumberP (j : Int) (by omega) (by omega) w2).mono ?_
   rintro e w3 ⟨p, rfl, hl, hin, hex⟩
   exact hK _ _ hex (by rw [hT]; exact ⟨p, rfl, hl, hin⟩)
  ·obtain ⟨v, hv, h2⟩ := hdep ⟨2, .data⟩ (by simp) rfl _ rfl
   have h3 := h2 _ rfl
   obtain ⟨u, hu, h4⟩ := hdep ⟨4, .data⟩ (by simp) rfl _ rfl
   have h5 := h4 _ rfl
   rw [hT] at hv hu
   obtain ⟨p1, rfl, l1, c1, i1⟩ := hv
   obtain ⟨p2, rfl, l2, i2⟩ := hu
   refine wp_app (.tmp 21) (.tmp 23) rfl p1 p2 ?_ ?_ i1 i2 (by rw [c1, l1, l2]; simp [numL]) (by rw [l1, l2]; simp [numL]) ?_
   ·simpa [Act.eval, Array.getD_eq_getD_getElem?] using h3
   ·simpa [Act.eval, Array.getD_eq_getD_getElem?] using h5
   intro r w3 hr hin hex
   exact hK _ _ hex (by rw [hT]; exact ⟨r, rfl, by rw [hr, l1, l2], hin⟩)
  ·obtain ⟨v, hv, h2⟩ := hdep ⟨0, .data⟩ (by simp) rfl _ rfl
   have h3 := h2 _ rfl
   obtain ⟨u, hu, h4⟩ := hdep ⟨5, .data⟩ (by simp) rfl _ rfl
   have h5 := h4 _ rfl
   rw [hT] at hv hu
   obtain rfl : v = .agg cs.toArray := hv
   obtain ⟨p1, rfl, l1, i1⟩ := hu
   go_simp
   refine (KY.out w2 p1 i1 (by rw [l1]; simp [numL])).mono ?_
   rintro e w3 ⟨rfl, hex⟩
   exact hK _ _ hex (by rw [hT, l1]; rfl)
  go_simp
  have hex : Ex w2 (w2.alloc (.cells zero16 36)) := (Below.refl _ _).alloc (Nat.le_refl _) _
  exact hK _ _ hex (by rw [hT]; exact ⟨w2.heap.size, rfl, hx.size, Bk.new rfl _ _⟩)
 intro a w2 hx hdef hsz hdone hout
 have hx : Ex wr w2 := Below.trans (Below.refl _ _).drew hx
 obtain ⟨v7, h7, g7⟩ := hdone 6 _ (by omega) rfl
 obtain ⟨v8, h8, g8⟩ := hdone 7 _ (by omega) rfl
 have g7 := g7 _ rfl
 have g8 := g8 _ rfl
 rw [hT] at h7 h8
 obtain rfl : v7 = _ := h7
 obtain ⟨g, rfl, hgb, hB⟩ := h8
 have hA := arr_range a.tmps 32 hsz
 change a.tmps = #[a.tmps[0]?.getD undef, a.tmps[1]?.getD undef, a.tmps[2]?.getD undef, a.tmps[3]?.getD undef, a.tmps[4]?.getD undef, a.tmps[5]?.getD undef, a.tmps[6]?.getD undef, a.tmps[7]?.getD undef, a.tmps[8]?.getD undef, a.tmps[9]?.getD undef, a.tmps[10]?.getD undef, a.tmps[11]?.getD undef, a.tmps[12]?.getD undef, a.tmps[13]?.getD undef, a.tmps[14]?.getD undef, a.tmps[15]?.getD undef, a.tmps[16]?.getD undef, a.tmps[17]?.getD undef, a.tmps[18]?.getD undef, a.tmps[19]?.getD undef, a.tmps[20]?.getD undef, a.tmps[21]?.getD undef, a.tmps[22]?.getD undef, a.tmps[23]?.getD undef, a.tmps[24]?.getD undef, a.tmps[25]?.getD undef, a.tmps[26]?.getD undef, a.tmps[27]?.getD undef, a.tmps[28]?.getD undef, a.tmps[29]?.getD undef, a.tmps[30]?.getD undef, a.tmps[31]?.getD undef] at hA
 have e0 := hout 0 oc
 have e1 := hout 1 oc
 have e2 := hout 2 oc
 have e3 := hout 3 oc
 have e4 := hout 4 oc
 have e5 := hout 5 oc
 have e6 := hout 6 oc
 have e7 := hout 7 oc
 have e8 := hout 8 oc
 have e10 := hout 10 oc
 have e11 := hout 11 oc
 have e12 := hout 12 oc
 have e13 := hout 13 oc
 have e14 := hout 14 oc
 have e15 := hout 15 oc
 have e16 := hout 16 oc
 have e17 := hout 17 oc
 have e18 := hout 18 oc
 have e26 := hout 26 oc
 have e27 := hout 27 oc
 have e28 := hout 28 oc
 have e29 := hout 29 oc
 have e30 := hout 30 oc
 have e31 := hout 31 oc
 simp only [Array.getD_eq_getD_getElem?, List.getElem?_toArray, List.getElem?_cons_zero, List.getElem?_cons_succ, Option.getD_some] at e0 e1 e2 e3 e4 e5 e6 e7 e8 e10 e11 e12 e13 e14 e15 e16 e17 e18 e26 e27 e28 e29 e30 e31
 rw [e0, e1, e2, e3, e4, e5, e6, e7, e8, e10, e11, e12, e13, e14, e15, e16, e17, e18, e26, e27, e28, e29, e30, e31] at hA
 clear e0 e1 e2 e3 e4 e5 e6 e7 e8 e10 e11 e12 e13 e14 e15 e16 e17 e18 e26 e27 e28 e29 e30 e31 hout
 have hds2 : a.defers = [] := hdef
 have ea : a = ⟨a.tmps, a.defers⟩ := rfl
 obtain ⟨ds, hds⟩ : ∃ ds, ds = Lib.byteCells (sumL (kl ++ (numL n ++ numL (j : Int)))) := ⟨_, rfl⟩
 have hval : digV (sumL (kl ++ (numL n ++ numL (j : Int)))) = .agg ds.toArray := by rw [hds]; rfl
 have hdl : ds.length = 16 := by rw [hds]; rfl
 have HO := Lib.hid (show ds.toArray.all (·.oneCell') = true by rw [hds]; exact bytes_one _)
 have hi3 := Lib.hid (show (Try.prog.info? 36).map (·.size) = some ds.toArray.size by rw [sm_dsize]; simp [hdl])
 rw [hA, hds2] at ea
 have s8 : a.tmps[9]?.getD undef = .pointer (some ⟨g, 0, none⟩) := by simpa [Array.getD_eq_getD_getElem?] using g8
 have s7 : a.tmps[25]?.getD undef = digV (sumL (kl ++ (numL n ++ numL (j : Int)))) := by simpa [Array.getD_eq_getD_getElem?] using g7
 rw [s8, s7] at ea
 clear hA hds2 s8 s7 g7 g8 hdone hdef hT
 generalize a.tmps[19]?.getD undef = y19 at ea
 generalize a.tmps[20]?.getD undef = y20 at ea
 generalize a.tmps[21]?.getD undef = y21 at ea
 generalize a.tmps[22]?.getD undef = y22 at ea
 generalize a.tmps[23]?.getD undef = y23 at ea
 generalize a.tmps[24]?.getD undef = y24 at ea
 clear hsz
 subst ea
 unfold wpOp
 simp only [List.getElem?_toArray, List.getElem?_cons_zero, List.getElem?_cons_succ]
 rw [if_pos (by rfl)]
 left
 have TH : w2.there g 0 ds.toArray.size := by rw [show ds.toArray.size = 16 by simp [hdl]]; exact hB.there 16 rfl
 rw [hval]
 refine wp_store_mid 36 _ _ rfl g 0 ds.toArray rfl rfl TH hi3.out HO.out ?_
 have hDs := rowAll hB (by simp [hdl]; rfl : ds.toArray.size = zero16.size)
 have hB3 : Bk (w2.setCells g 0 ds.toArray.toList) g 36 ds.toArray := hDs
 have bx : Below wr.heap.size wr (w2.setCells g 0 ds.toArray.toList) := sm_below_setCells _ _ _ hgb hx
 have PI := bk_pt (w := w2.setCells g 0 ds.toArray.toList) (g := g) (t := 36) (l := sumL (kl ++ (numL n ++ numL (j : Int)))) (by rw [← hds]; exact hB3)
 have own3 : (w2.setCells g 0 ds.toArray.toList).ownsRow (w.heap.size + 1) 5 1 (.slice q.ad ln q.cap) ln (Lib.byteCells (strB kl n j)) := by
  have h := own_under own.out bx
  unfold ownU at h
  rw [HQV.out, strB_len, ← HLN.out] at h
  exact h
 have bw3 : Below w.heap.size w (w2.setCells g 0 ds.toArray.toList) := bw.trans (bx.mono (by omega))
 have HS := strB_succ kl n j
 have hz3 : w.heap.size + 1 ≤ (w2.setCells g 0 ds.toArray.toList).heap.size := by have := bx.size; omega
 have PI := Lib.hid PI
 have OW := Lib.hid own3
 have HS := Lib.hid HS
 have hrg3 : Hid ((w2.setCells g 0 ds.toArray.toList).rangeAt w.heap.size 0 cs) := Lib.hid (fun x v hv => (bx.cell (p := ⟨w.heap.size, 0 + x, none⟩) (by show w.heap.size < wr.heap.size; omega)).trans (hrg.out x v hv))
 clear own3 hB3 hDs hB TH hval hds hdl bx hgb hx own hrg
 generalize w2.setCells g 0 ds.toArray.toList = w3 at PI OW bw3 hz3 hrg3 ⊢
 have hln2 : ln + 16 ≤ 20000 := by omega
 go_wp2_with (at_builtin; refine sm_append rfl (.tmp 26) (.tmp 27) rfl (w.heap.size + 1) _ ln _ rfl OW.out (some ⟨g, 0, none⟩) 16 16 (sumL (kl ++ (numL n ++ numL (j : Int)))) rfl ?_ rfl ?_ ?_ ?_ ?_; (focus (intro h; cases h)); (focus (intro h; exact PI.out.cells (by rw [sumL_len]; omega))); (focus omega); (focus omega); intro v4 w4 hown4 hg4; have HO4 := Lib.hid hown4; have HG4 := Lib.hid hg4; clear hown4 hg4)
 have E1 : Hid (ownU w4 (w.heap.size + 1) v4 (strB kl n (j + 1))) := by
  have h := HO4.out
  rw [← byteCells_app, ← HS.out] at h
  unfold ownU
  rw [strB_len, Nat.mul_add, Nat.mul_one, ← HLN.out]
  exact Lib.hid h
 have bw4 : Below w.heap.size w w4 := bw3.grown HG4.out (by omega) (fun x hx => by have := (OW.out.lt x hx).1; omega)
 have hrg4 : Hid (w4.rangeAt w.heap.size 0 cs) := Lib.hid (fun x v hv => World.grownBy.cell HG4.out (hrg3.out x v hv) (own_far OW.out (by show w.heap.size < w.heap.size + 1; omega)))
 have hz4 : w.heap.size + 1 ≤ w4.heap.size := by have := HG4.out.size; omega
 clear HO4 HG4 OW PI hrg3
 go_roundw
 case rel => exact ⟨j + 1, by have := HLN.out; omega, by go_num, E1, hrg4, bw4, hz4⟩
 case measure => have := HLN.out; simp [intOf]; omega
end Go.Proofs.Ytopamplmpfndlaa.Sm
