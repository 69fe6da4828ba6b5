/- MEnC, MEnD -/
import Derived.Test.YtopamplmpfndlaaEav
import Derived.Test.YtopamplmpfndlaaEaw
set_option maxRecDepth 100000
set_option maxHeartbeats 16000000
namespace Go.Proofs.Ytopamplmpfndlaa.Sm
open Go.RowKit
def uncL (kl : List UInt8) (to : UInt8) (b : List UInt8) : List UInt8 × Int :=
 if b.length < 16 then ([], 12) else if 8192 < b.length then ([], 3)
 else match openL (innerL kl (beV (b.take 8) : Int)) (beV (b.take 8) : Int) [to] (b.drop 8) with
  | none => ([], 30)
  | some t => (t, 0)
theorem eopen_any (kl : List UInt8) (hkll : kl.length = 16) (to : UInt8) (b : Pt) (w : World) (hb : b.In w w.heap.size) (hmx : b.l.length ≤ 9223372036854775807) :
  Calls Try.prog 62 #[digV kl, .int .u8 to.toNat, b.V] w (TupPost (uncL kl to b.l).1 (uncL kl to b.l).2 w) := by
 obtain ⟨cs, hcs⟩ : ∃ cs, cs = (Lib.byteCells kl).toArray := ⟨_, rfl⟩
 have hv : digV kl = .agg cs := by rw [hcs]; rfl
 have HA : Hid (DB (w.alloc (.cells cs 36)) w.heap.size kl) := by rw [hcs]; exact Lib.hid (DB.new rfl hkll)
 have bw : Below w.heap.size w (w.alloc (.cells cs 36)) := (Below.refl _ _).alloc (Nat.le_refl _) _
 obtain ⟨mb, hmb⟩ : ∃ m, m = b.l.length := ⟨_, rfl⟩
 have hbv : b.V = .slice b.ad mb b.cap := by unfold Pt.V; rw [hmb]
 obtain ⟨L, hL⟩ : ∃ L, L = (uncL kl to b.l).1 := ⟨_, rfl⟩
 obtain ⟨E, hE⟩ : ∃ L, L = (uncL kl to b.l).2 := ⟨_, rfl⟩
 obtain ⟨bL, hbL⟩ : ∃ L, L = b.l := ⟨_, rfl⟩
 have HBV := Lib.hid hbv
 have hbi := hb.ext bw
 rw [← hmb] at hmx
 rw [← hbL] at hL hE hmb
 have HMB := Lib.hid hmb.symm
 have bz := bw.size
 rw [← hbL, ← hL, ← hE, hv]
 rw [hbv]
 clear hv hcs hb
 by_cases c1 : mb < 16
 ·have hu : uncL kl to bL = ([], 12) := by unfold uncL; rw [if_pos (by rw [← hmb]; exact c1)]
  rw [hu] at hL hE
  subst hL
  subst hE
  clear hu hbL hbv HA hbi
  go_enter Try.func62, Try.ntmps62
  go_wp2_with fail
  go_ret2
  exact ⟨⟨none, 0, []⟩, rfl, rfl, nil_inE _ _, bw⟩
 by_cases c2 : 8192 < mb
 ·have hu : uncL kl to bL = ([], 3) := by unfold uncL; rw [if_neg (by rw [← hmb]; exact c1), if_pos (by rw [← hmb]; exact c2)]
  rw [hu] at hL hE
  subst hL
  subst hE
  clear hu hbL hbv HA hbi
  go_enter Try.func62, Try.ntmps62
  go_wp2_with fail
  go_ret2
  exact ⟨⟨none, 0, []⟩, rfl, rfl, nil_inE _ _, bw⟩
 have hb1 : 16 ≤ mb := by omega
 have hb2 : mb ≤ 8192 := by omega
 obtain ⟨sd, hsd⟩ : ∃ s : Int, s = (beV (bL.take 8) : Int) := ⟨_, rfl⟩
 have hsb : 0 ≤ sd ∧ sd < 18446744073709551616 := by rw [hsd]; exact beV8 _ (by rw [List.length_take]; omega)
 obtain ⟨X, hX⟩ : ∃ X, X = innerL kl sd := ⟨_, rfl⟩
 have HX := Lib.hid (show X.length = 16 by rw [hX]; exact innerL_len _ _)
 have hXl := HX.out
 have HDL := Lib.hid (show (bL.drop 8).length = mb - 8 by rw [List.length_drop, hmb])
 have hLE : TupPost ((openL X sd [to] (bL.drop 8)).getD []) (if (openL X sd [to] (bL.drop 8)).isSome then 0 else 30) = TupPost L E := by
  have hu : uncL kl to bL = match openL (innerL kl (beV (bL.take 8) : Int)) (beV (bL.take 8) : Int) [to] (bL.drop 8) with
    | none => ([], 30)
    | some t => (t, 0) := by
   unfold uncL
   rw [if_neg (by rw [← hmb]; exact c1), if_neg (by rw [← hmb]; exact c2)]
  rw [hL, hE, hX, hsd, hu]
  cases openL (innerL kl (beV (bL.take 8) : Int)) (beV (bL.take 8) : Int) [to] (bL.drop 8) <;> rfl
 have IN := Lib.hid (show ∀ W : World, Calls Try.prog 37 #[digV kl, .int .u64 sd] W fun e w' => e = .returned (digV X) ∧ Below W.heap.size W w' from fun W => by have h := inner_any kl hkll sd hsb.1 hsb.2 W; rw [← hX] at h; exact h)
 have OP := Lib.hid (show ∀ (W : World) (p q : Pt), p.l = [to] → q.l = bL.drop 8 → p.In W W.heap.size → q.In W W.heap.size → Calls Try.prog 107 #[digV X, .int .u64 sd, p.V, q.V] W (TupPost L E W) from fun W p q h1 h2 i1 i2 => by
  have h := open_any X hXl sd hsb.1 hsb.2 p q W i1 i2
  rw [h1, h2] at h
  rw [← hLE]
  exact Calls.mono h fun _ _ => OpenPost.tup)
 obtain ⟨a, o, e, ha, hcc⟩ := hbi.read (by rw [← hbL, ← hmb]; omega)
 have hcap := hbi.cap
 rw [← hbL, ← hmb] at hcap
 have hc8 : 8 ≤ b.cap := by omega
 have p8 : (Pt.mk (some ⟨a, o, none⟩) b.cap (bL.take 8)).In (w.alloc (.cells cs 36)) (w.alloc (.cells cs 36)).heap.size := by
  have h := pt_takeV b 8 _ hbi (by rw [← hbL, ← hmb]; omega)
  rw [e, ← hbL] at h
  exact h
 have l8 : (bL.take 8).length = 8 := by rw [List.length_take]; omega
 have NO := numof_any ⟨some ⟨a, o, none⟩, b.cap, bL.take 8⟩ l8 _ p8
 have hV8 : (Pt.mk (some ⟨a, o, none⟩) b.cap (bL.take 8)).V = .slice (some ⟨a, o, none⟩) 8 b.cap := by unfold Pt.V; simp only [l8]
 rw [hV8] at NO
 simp only [← hsd] at NO
 have NO := Lib.hid NO
 have hbl : b.l = bL := hbL.symm
 have HBE : Hid (b.V = .slice (some ⟨a, o, none⟩) mb b.cap) := Lib.hid (by rw [hbv, e])
 have HBI := Lib.hid hbi
 rw [← hbv, HBE.out]
 have hXl2 := hXl
 clear p8 l8 hV8 hcc ha e hLE hX hsd hL hE hbL hbv hbi hmb c1 c2 hsb
 go_enter Try.func62, Try.ntmps62
 go_wp2_with fail
 obtain ⟨wr, hw1⟩ : ∃ w1, w1 = w.alloc (.cells cs 36) := ⟨_, rfl⟩
 rw [← hw1] at HA bw bz NO HBI ⊢
 clear hw1
 refine NO.out.mono ?_
 rintro e w2 ⟨rfl, rfl⟩
 clear NO
 go_wp2_with fail
 rw [← HBE.out]
 have hbi := HBI.out
 generalize wr = wr at *
 obtain ⟨T, hT⟩ : ∃ T : List As3, T = [.is (digV kl), .is (.int .u64 sd), .is (digV X), .is (.int .u64 sd), .is (.int .u8 to.toNat), .pt [to], .pt bL, .pt (bL.drop 8), .tup L E, .pt L, .is (.int .i64 E), .pt L] := ⟨_, rfl⟩
 refine wp_region_flow 12 (tabPhi3 T) (by kernel_rfl) rfl (by kernel_rfl) (by kernel_rfl) (by kernel_rfl) (tabPhi3_stable T) (fitB_spec (by kernel_rfl)) ?_ ?_
 ·intro i o hi ho
  have hi' : i = 0 ∨ i = 1 ∨ i = 2 ∨ i = 3 ∨ i = 4 ∨ i = 5 ∨ i = 6 ∨ i = 7 ∨ i = 8 ∨ i = 9 ∨ i = 10 ∨ i = 11 := by omega
  rcases hi' with rfl | rfl | rfl | rfl | rfl | rfl | rfl | rfl | rfl | rfl | rfl | rfl
  all_goals (simp only [List.getElem?_toArray, List.getElem?_cons_zero, List.getElem?_cons_succ, Option.some.injEq] at ho; subst ho; intro a w2 hx hsz hdep hout)
  ·rw [if_pos (by rfl)]
   intro K hK
   have f := hout 3 (outB_spec (by kernel_rfl))
   exact wp_ld _ w.heap.size kl rfl f (HA.out.ext (Ex.trans (show Ex wr wr.drew from (Below.refl _ _).drew) hx)) (hK _ _ (Ex.refl _) (by rw [hT]; rfl))
  ·rw [if_pos (by rfl)]
   intro K hK
   have f := hout 8 (outB_spec (by kernel_rfl))
   exact wp_mv _ rfl (hK _ _ (Ex.refl _) (by rw [hT]; exact f))
  ·rw [if_pos (by rfl)]
   intro K hK
   obtain ⟨v, hv, kv⟩ := hdep ⟨0, .data⟩ (by simp) rfl _ rfl
   have qv := kv _ rfl
   rw [hT] at hv
   obtain rfl : v = digV kl := hv
   obtain ⟨u, hu, ku⟩ := hdep ⟨1, .data⟩ (by simp) rfl _ rfl
   have qu := ku _ rfl
   rw [hT] at hu
   obtain rfl : u = .int .u64 sd := hu
   go_simp
   refine (IN.out w2).mono ?_
   rintro e w3 ⟨rfl, hex⟩
   exact hK _ _ hex (by rw [hT]; rfl)
  ·rw [if_pos (by rfl)]
   intro K hK
   have f := hout 8 (outB_spec (by kernel_rfl))
   exact wp_mv _ rfl (hK _ _ (Ex.refl _) (by rw [hT]; exact f))
  ·rw [if_pos (by rfl)]
   intro K hK
   have f := hout 1 (outB_spec (by kernel_rfl))
   exact wp_mv _ rfl (hK _ _ (Ex.refl _) (by rw [hT]; exact f))
  ·rw [if_pos (by rfl)]
   intro K hK
   obtain ⟨v, hv, kv⟩ := hdep ⟨4, .data⟩ (by simp) rfl _ rfl
   have qv := kv _ rfl
   rw [hT] at hv
   obtain rfl : v = .int .u8 to.toNat := hv
   have q : a.tmps[22]?.getD undef = .int .u8 to.toNat := by rw [← Array.getD_eq_getD_getElem?]; exact qv
   clear hsz hdep hout kv qv
   go_simp
   have hex : Ex w2 (w2.alloc (.cells #[.int .u8 to.toNat] 5)) := (Below.refl _ _).alloc (Nat.le_refl _) _
   exact hK _ _ hex (by rw [hT]; exact ⟨⟨some ⟨w2.heap.size, 0, none⟩, 1, [to]⟩, rfl, rfl, by have h := lit_pt w2 [to] (0, 0); exact h⟩)
  ·rw [if_pos (by rfl)]
   intro K hK
   have f := hout 2 (outB_spec (by kernel_rfl))
   exact wp_mv _ rfl (hK _ _ (Ex.refl _) (by rw [hT]; exact ⟨b, f, hbl, hbi.ext (Ex.trans (show Ex wr wr.drew from (Below.refl _ _).drew) hx)⟩))
  ·rw [if_pos (by rfl)]
   intro K hK
   obtain ⟨v, hv, kv⟩ := hdep ⟨6, .data⟩ (by simp) rfl _ rfl
   have qv := kv _ rfl
   rw [hT] at hv
   obtain ⟨pv, rfl, lv, iv⟩ := hv
   obtain ⟨a', o', e', ha', hcc⟩ := iv.read (by rw [lv, HMB.out]; omega)
   have hcap := iv.cap
   rw [lv, HMB.out] at hcap
   have q1 : a.tmps[24]?.getD undef = .slice (some ⟨a', o', none⟩) mb pv.cap := by rw [← Array.getD_eq_getD_getElem?, qv]; unfold Pt.V; rw [lv, HMB.out, e']
   have PT : Hid ((Pt.mk (some ⟨a', o' + 8, none⟩) (pv.cap - 8) (bL.drop 8)).In w2 w2.heap.size) := Lib.hid ⟨by show (bL.drop 8).length ≤ pv.cap - 8; rw [HDL.out]; omega, (fun h => by cases h), fun _ => ⟨a', o' + 8, rfl, ha', fun i hi => by
   have hi2 : i < (bL.drop 8).length := hi
   rw [HDL.out] at hi2
   rw [Nat.add_assoc, hcc (8 + i) (by rw [lv, HMB.out]; omega), lv]
   simp [List.getD, List.getElem?_drop]⟩⟩
   have hne : ¬ pv.cap = 8 := by omega
   have h8c : 8 ≤ mb := by omega
   have h8d : 8 ≤ pv.cap := by omega
   clear hcc iv lv hsz hdep hout qv kv
   go_simp
   rw [if_pos (show (8 : Int) ≤ (mb : Int) by omega)]
   exact hK _ _ (Ex.refl _) (by rw [hT]; exact ⟨⟨some ⟨a', o' + 8, none⟩, pv.cap - 8, bL.drop 8⟩, (by unfold Pt.V; simp only [HDL.out]), rfl, PT.out⟩)
  ·rw [if_pos (by rfl)]
   intro K hK
   obtain ⟨v, hv, kv⟩ := hdep ⟨2, .data⟩ (by simp) rfl _ rfl
   have qv := kv _ rfl
   rw [hT] at hv
   obtain rfl : v = digV X := hv
   obtain ⟨u, hu, ku⟩ := hdep ⟨3, .data⟩ (by simp) rfl _ rfl
   have qu := ku _ rfl
   rw [hT] at hu
   obtain rfl : u = .int .u64 sd := hu
   obtain ⟨x, hx, kx⟩ := hdep ⟨5, .data⟩ (by simp) rfl _ rfl
   have qx := kx _ rfl
   rw [hT] at hx
   obtain ⟨px, rfl, lx, ix⟩ := hx
   obtain ⟨y, hy, ky⟩ := hdep ⟨7, .data⟩ (by simp) rfl _ rfl
   have qy := ky _ rfl
   rw [hT] at hy
   obtain ⟨py, rfl, ly, iy⟩ := hy
   go_simp
   refine (OP.out w2 _ _ lx ly ix iy).mono ?_
   rintro e w3 ⟨p, rfl, hl, hin, hex⟩
   exact hK _ _ hex (by rw [hT]; exact ⟨p, rfl, hl, hin⟩)
  ·rw [if_pos (by rfl)]
   intro K hK
   obtain ⟨v, hv, kv⟩ := hdep ⟨8, .data⟩ (by simp) rfl _ rfl
   have qv := kv _ rfl
   rw [hT] at hv
   obtain ⟨pv, rfl, lv, iv⟩ := hv
   have q : a.tmps[26]?.getD undef = .tuple #[pv.V, .int .i64 E] := by rw [← Array.getD_eq_getD_getElem?]; exact qv
   obtain ⟨vx, hvx⟩ : ∃ v, v = pv.V := ⟨_, rfl⟩
   rw [← hvx] at q
   have HVX := Lib.hid hvx
   clear hsz hdep hout qv kv hvx
   go_simp
   exact hK _ _ (Ex.refl _) (by rw [hT]; exact ⟨pv, HVX.out, lv, iv⟩)
  ·rw [if_pos (by rfl)]
   intro K hK
   obtain ⟨v, hv, kv⟩ := hdep ⟨8, .data⟩ (by simp) rfl _ rfl
   have qv := kv _ rfl
   rw [hT] at hv
   obtain ⟨pv, rfl, lv, iv⟩ := hv
   have q : a.tmps[26]?.getD undef = .tuple #[pv.V, .int .i64 E] := by rw [← Array.getD_eq_getD_getElem?]; exact qv
   obtain ⟨vx, hvx⟩ : ∃ v, v = pv.V := ⟨_, rfl⟩
   rw [← hvx] at q
   have HVX := Lib.hid hvx
   clear hsz hdep hout qv kv hvx
   go_simp
   exact hK _ _ (Ex.refl _) (by rw [hT]; rfl)
  rw [if_pos (by rfl)]
  intro K hK
  obtain ⟨v, hv, kv⟩ := hdep ⟨9, .data⟩ (by simp) rfl _ rfl
  have qv := kv _ rfl
  rw [hT] at hv
  obtain ⟨pv, rfl, lv, iv⟩ := hv
  exact wp_asg2 _ rfl (hK _ _ (Ex.refl _) (by rw [hT]; exact ⟨pv, qv, lv, iv⟩))
 intro a w2 hx hdef hsz hdone hout
 obtain ⟨sa, hsa, ksa⟩ := hdone 11 _ (by omega) rfl
 have qsa := ksa _ rfl
 rw [hT] at hsa
 obtain ⟨psa, rfl, lsa, isa⟩ := hsa
 obtain ⟨v, hv, kv⟩ := hdone 10 _ (by omega) rfl
 have qv := kv _ rfl
 rw [hT] at hv
 obtain rfl : v = .int .i64 E := hv
 clear hdone ksa kv hT
 have hA := arr_range a.tmps 29 hsz
 change a.tmps = #[a.tmps[0]?.getD undef, a.tmps[1]?.getD undef, a.tmps[2]?.getD undef, a.tmps[3]?.getD undef, a.tmps[4]?.getD undef, a.tmps[5]?.getD undef, a.tmps[6]?.getD undef, a.tmps[7]?.getD undef, a.tmps[8]?.getD undef, a.tmps[9]?.getD undef, a.tmps[10]?.getD undef, a.tmps[11]?.getD undef, a.tmps[12]?.getD undef, a.tmps[13]?.getD undef, a.tmps[14]?.getD undef, a.tmps[15]?.getD undef, a.tmps[16]?.getD undef, a.tmps[17]?.getD undef, a.tmps[18]?.getD undef, a.tmps[19]?.getD undef, a.tmps[20]?.getD undef, a.tmps[21]?.getD undef, a.tmps[22]?.getD undef, a.tmps[23]?.getD undef, a.tmps[24]?.getD undef, a.tmps[25]?.getD undef, a.tmps[26]?.getD undef, a.tmps[27]?.getD undef, a.tmps[28]?.getD undef] at hA
 have e0 := hout 0 oc
 have e1 := hout 1 oc
 have e2 := hout 2 oc
 have e3 := hout 3 oc
 have e4 := hout 4 oc
 have e5 := hout 5 oc
 have e8 := hout 8 oc
 have e9 := hout 9 oc
 have e10 := hout 10 oc
 have e11 := hout 11 oc
 have e12 := hout 12 oc
 have e13 := hout 13 oc
 have e14 := hout 14 oc
 have e15 := hout 15 oc
 have e16 := hout 16 oc
 have e17 := hout 17 oc
 simp only [Array.getD_eq_getD_getElem?, List.getElem?_toArray, List.getElem?_cons_zero, List.getElem?_cons_succ, Option.getD_some] at e0 e1 e2 e3 e4 e5 e8 e9 e10 e11 e12 e13 e14 e15 e16 e17
 rw [e0, e1, e2, e3, e4, e5, e8, e9, e10, e11, e12, e13, e14, e15, e16, e17] at hA
 clear e0 e1 e2 e3 e4 e5 e8 e9 e10 e11 e12 e13 e14 e15 e16 e17 hout
 have hds2 : a.defers = [] := hdef
 have ea : a = ⟨a.tmps, a.defers⟩ := rfl
 have s6 : a.tmps[6]?.getD undef = psa.V := by simpa [Array.getD_eq_getD_getElem?] using qsa
 have s28 : a.tmps[28]?.getD undef = .int .i64 E := by simpa [Array.getD_eq_getD_getElem?] using qv
 rw [hA, hds2, s6, s28] at ea
 clear hA hds2 s6 qsa s28 qv hdef
 generalize a.tmps[18]?.getD undef = y18 at ea
 generalize a.tmps[19]?.getD undef = y19 at ea
 generalize a.tmps[20]?.getD undef = y20 at ea
 generalize a.tmps[21]?.getD undef = y21 at ea
 generalize a.tmps[22]?.getD undef = y22 at ea
 generalize a.tmps[23]?.getD undef = y23 at ea
 generalize a.tmps[24]?.getD undef = y24 at ea
 generalize a.tmps[25]?.getD undef = y25 at ea
 generalize a.tmps[26]?.getD undef = y26 at ea
 generalize a.tmps[27]?.getD undef = y27 at ea
 generalize a.tmps[7]?.getD undef = y7 at ea
 clear hsz
 subst ea
 have bx : Below wr.heap.size wr w2 := Below.trans (Below.refl _ _).drew hx
 unfold wpOp
 simp only [List.getElem?_toArray, List.getElem?_cons_zero, List.getElem?_cons_succ]
 rw [if_pos (by rfl)]
 left
 have bw3 := bw.trans (bx.mono bz)
 obtain ⟨rv, hrv⟩ : ∃ v, v = psa.V := ⟨_, rfl⟩
 have HRV := Lib.hid hrv
 rw [← hrv]
 have SL := Lib.hid lsa
 have SI := Lib.hid isa
 clear hrv lsa isa bx hx hbi HBI
 go_simp
 go_wp2_with fail
 go_ret2
 exact ⟨psa, by show Ending.returned (.tuple #[rv, .int .i64 E]) = _; rw [HRV.out], SL.out, SI.out, bw3⟩
end Go.Proofs.Ytopamplmpfndlaa.Sm
namespace Go.Proofs.Ytopamplmpfndlaa.Sm
open Go.RowKit
theorem close_take (kl : List UInt8) (s : Int) (b : UInt8) (t : List UInt8) : (closeL kl s b t).take 8 = numL s := by
 unfold closeL
 rw [List.take_append_of_le_length (by simp [numL]), List.take_of_length_le (by simp [numL])]
theorem close_drop (kl : List UInt8) (s : Int) (b : UInt8) (t : List UInt8) : (closeL kl s b t).drop 8 = sealL (innerL kl s) s [b] t := by
 unfold closeL
 rw [List.drop_append_of_le_length (by simp [numL]), List.drop_of_length_le (by simp [numL]), List.nil_append]
theorem unc_close (kl : List UInt8) (s : Int) (s0 : 0 ≤ s) (s1 : s < 18446744073709551616) (b : UInt8) (t : List UInt8) (ht : t.length ≤ 8176) : uncL kl b (closeL kl s b t) = (t, 0) := by
 have hl := closeL_len kl s b t
 unfold uncL
 rw [if_neg (by rw [hl]; omega), if_neg (by rw [hl]; omega), close_take, close_drop, beV_numL s s0 s1, open_seal _ _ _ _ (by simp) (by omega)]
end Go.Proofs.Ytopamplmpfndlaa.Sm
