/- Wd -/
import Derived.Test.YtmjfnpmnhehnkaaXaz
import Derived.Test.YtmjfnpmnhehnkaaXax
namespace Go.Proofs.Ytmjfnpmnhehnkaa
open Go.RowKit
def repG (id : List UInt8) (g c n : Int) : Rt := ⟨0, id, g, 0, nilB, c, n⟩
theorem built_repG (id : List UInt8) (g c n : Int) (h : id.length = 4) : Try.prog.built 83 [(1, digV id), (2, .int .u64 g), (5, .int .i64 c), (6, .int .u64 n)] = some (repG id g c n).C.toArray := by
 obtain ⟨a, b, c, d, rfl⟩ := len4 h
 kernel_rfl
theorem repG_ok {id : List UInt8} {g c n : Int} (h : id.length = 4) (g0 : 0 ≤ g) (g1 : g < 18446744073709551616) (c0 : -9223372036854775808 ≤ c) (c1 : c ≤ 9223372036854775807) (n0 : 0 ≤ n) (n1 : n < 18446744073709551616) : (repG id g c n).Ok :=
 ⟨by show (-9223372036854775808 : Int) ≤ 0; decide, by show (0 : Int) ≤ 9223372036854775807; decide, h, g0, g1, by show (-9223372036854775808 : Int) ≤ 0; decide, by show (0 : Int) ≤ 9223372036854775807; decide, c0, c1, n0, n1⟩
def RDPost (v : Vt) (q : Qt) (w : World) (e : Ending) (w' : World) : Prop := ∃ (v' : Vt) (r' : Rt) (b : Bool), e = .returned (.tuple #[v'.V, r'.V, .bool b]) ∧ (v'.ct, r'.ct, b) = doC v.ct q.ct ∧ v'.Ok ∧ (v'.sec = v.sec ∨ v'.sec = q.sec ∨ v'.sec = nilB) ∧ r'.Ok ∧ PN w' w.heap.size r'.sec ∧ Ex w w'
/-- what Do comes to, when vault and request may be -/
theorem doC_err {v : Vc} {q : Qc} (h : q.right = false ∨ (v ≠ zeroVc ∧ (v.right = false ∨ v.id ≠ q.id))) : doC v q = (zeroVc, errRc, false) := by unfold doC; rw [if_pos h]
theorem doC_ref {v : Vc} {q : Qc} (hm : ¬ (q.right = false ∨ (v ≠ zeroVc ∧ (v.right = false ∨ v.id ≠ q.id)))) {nv : Bool} (hn : nv = decide (v = zeroVc)) {e : Int} (he : refuseC v nv q = e) (h0 : e ≠ 0) : doC v q = (v, ⟨e, q.id, v.gen, 0, [], q.client, q.num⟩, false) := by
 unfold doC; rw [if_neg hm, ← hn, if_neg (by rw [he]; exact h0), he]; rfl
theorem doC_act {v : Vc} {q : Qc} (hm : ¬ (q.right = false ∨ (v ≠ zeroVc ∧ (v.right = false ∨ v.id ≠ q.id)))) {nv : Bool} (hn : nv = decide (v = zeroVc)) (he : refuseC v nv q = 0) : doC v q = (match actC v q ⟨0, q.id, 0, 0, [], q.client, q.num⟩ with | (x, y, b) => (x, { y with gen := x.gen }, b)) := by
 unfold doC; rw [if_neg hm, ← hn, if_pos he]; rfl
theorem left_of {v : Vc} (h : v.right = true) (hg : v.gone = false) : v.left = v.lim - v.used := by
 unfold Vc.left; rw [if_neg (by rw [hg]; simp), if_pos h]
theorem fr_left {v : Vc} {q : Qc} (hq : q.right = true) (ho : q.op = 1 ∨ q.op = 3) (h0 : 0 ≤ v.gen) (h1 : v.gen < 1099511627776) : (freshC v q).left = q.lim := by
 have hp := qright_parts hq ho
 have hr : (freshC v q).right = true := right_mk rfl ⟨(by show 1 ≤ v.gen + 1; omega), (by show v.gen + 1 ≤ 1099511627776; omega), rfl, hp.1, hp.2.1, (by show (0 : Int) ≤ 0; decide), (by show (0 : Int) < q.lim; omega), hp.2.2⟩
 rw [left_of hr rfl]; show q.lim - 0 = q.lim; omega
set_option maxHeartbeats 32000000 in
set_option maxRecDepth 100000 in
theorem rdo_any (v : Vt) (q : Qt) (w : World) (hv : VI w v) (hvl : v.sec.l.length ≤ 100000000000000) (hq : QI w q) : Calls Try.prog 110 #[v.V, q.V] w (RDPost v q w) := by
 have C1 := Hi (fun w1 (k : Ex w w1) => none_any v w1 (hv.ext k))
 have C2 := Hi (fun w1 (k : Ex w w1) => rqright_any q w1 (hq.ext k))
 have C3 := Hi (fun w1 (k : Ex w w1) => rright_any v w1 (hv.ext k))
 have HVI := Hi hv
 have HQI := Hi hq
 have HVL := Hi hvl
 obtain ⟨rq, hrq⟩ : ∃ b, b = q.ct.right := ⟨_, rfl⟩
 rw [← hrq] at C2
 have HRQ := Hi hrq
 clear hrq
 obtain ⟨rv, hrv⟩ : ∃ b, b = v.ct.right := ⟨_, rfl⟩
 rw [← hrv] at C3
 have HRV := Hi hrv
 clear hrv
 obtain ⟨nv, hnv⟩ : ∃ b, b = decide (v.ct = zeroVc) := ⟨_, rfl⟩
 rw [← hnv] at C1
 have HNV := Hi hnv
 clear hnv
 obtain ⟨cs, hcs⟩ : ∃ cs, cs = v.C.toArray := ⟨_, rfl⟩
 obtain ⟨ds, hds⟩ : ∃ cs, cs = q.C.toArray := ⟨_, rfl⟩
 have A0 : Hid (VB ((((w.alloc (.cells cs 36)).alloc (.cells ds 86)).alloc (.cells zeroVt.C.toArray 36)).alloc (.cells zeroRt.C.toArray 83)) w.heap.size v) := Hi ⟨hv.1, by rw [hcs]; exact (((Bk.new rfl _ _).more _).more _).more _⟩
 have Q0 : Hid (QB ((((w.alloc (.cells cs 36)).alloc (.cells ds 86)).alloc (.cells zeroVt.C.toArray 36)).alloc (.cells zeroRt.C.toArray 83)) (w.heap.size + 1) q) := Hi ⟨hq.1, by rw [hds]; exact ((Bk.new (by simp) _ _).more _).more _⟩
 have Z0 : Hid (VB ((((w.alloc (.cells cs 36)).alloc (.cells ds 86)).alloc (.cells zeroVt.C.toArray 36)).alloc (.cells zeroRt.C.toArray 83)) (w.heap.size + 2) zeroVt) := Hi ⟨zeroVt_ok, (Bk.new (by simp) _ _).more _⟩
 have R0 : Hid (RB ((((w.alloc (.cells cs 36)).alloc (.cells ds 86)).alloc (.cells zeroVt.C.toArray 36)).alloc (.cells zeroRt.C.toArray 83)) (w.heap.size + 3) zeroRt) := Hi ⟨zeroRt_ok, Bk.new (by simp) _ _⟩
 have BW : Hid (Ex w ((((w.alloc (.cells cs 36)).alloc (.cells ds 86)).alloc (.cells zeroVt.C.toArray 36)).alloc (.cells zeroRt.C.toArray 83))) := Hi (Ex.trans (Ex.alloc w _) (Ex.trans (Ex.alloc _ _) (Ex.trans (Ex.alloc _ _) (Ex.alloc _ _))))
 rw [show (Calls Try.prog 110 #[v.V, q.V] w) = (Calls Try.prog 110 #[.agg cs, .agg ds] w) by rw [hcs, hds]; rfl]
 clear hcs hds hv hq hvl
 go_enter Try.func110, Try.ntmps110
 go_wp2_with ((with_reducible refine so2 [1000+45] ?_ ?_); (focus rfl))
 (with_reducible refine ⟨?_⟩)
 change wpList _ _ _ _ _ ((((w.alloc (.cells cs 36)).alloc (.cells ds 86)).alloc (.cells zeroVt.C.toArray 36)).alloc (.cells zeroRt.C.toArray 83))
 generalize hw1 : ((((w.alloc (.cells cs 36)).alloc (.cells ds 86)).alloc (.cells zeroVt.C.toArray 36)).alloc (.cells zeroRt.C.toArray 83)) = w1 at *
 clear hw1
 obtain ⟨B, hB⟩ : ∃ B, B = w.heap.size := ⟨_, rfl⟩
 rw [← hB] at A0 Q0 Z0 R0 ⊢
 have HB := Hi hB
 clear hB
 go_wp2_with ((with_reducible refine so2 [1000+45] ?_ ?_); (focus rfl))
 refine at9 (by go_simp) fun K0 hK => ld_q _ _ q rfl rfl Q0.out (hK _ _ ?_)
 clear hK
 go_wp2_with ((with_reducible refine so2 [1000+45] ?_ ?_); (focus rfl))
 refine (C2.out _ BW.out).mono ?_
 rintro e w3 ⟨rfl, x3⟩
 clear C2
 replace A0 := Hi (A0.out.ext x3)
 replace Q0 := Hi (Q0.out.ext x3)
 replace Z0 := Hi (Z0.out.ext x3)
 replace R0 := Hi (R0.out.ext x3)
 replace BW := Hi (Ex.trans BW.out x3)
 clear x3
 cases rq
 case false =>
  go_wp2_with ((with_reducible refine so2 [1000+45] ?_ ?_); (focus rfl))
  (first | ((with_reducible refine at8 ?_ ?_); (focus (go_simp; done)); go_wp2_with ((with_reducible refine so2 [1000+45] ?_ ?_); (focus rfl))) | skip)
  go_wp2_with ((with_reducible refine so2 [1000+45] ?_ ?_); (focus rfl))
  refine at9 (by go_simp) fun K0 hK => wp_build _ _ rfl _ built_zero (hK _ _ ?_)
  clear hK
  go_wp2_with ((with_reducible refine so2 [1000+45] ?_ ?_); (focus rfl))
  refine at9 (by go_simp) fun K0 hK => wp_build _ _ rfl _ built_err (hK _ _ ?_)
  clear hK
  go_wp2_with ((with_reducible refine so2 [1000+45] ?_ ?_); (focus rfl))
  refine at9 (by go_simp) fun K0 hK => st_v _ _ (B + 2) zeroVt rfl rfl rfl zeroVt_ok Z0.out.2 (by rw [List.size_toArray, Vt.len Z0.out.1]) (fun w5 hd ho => hK _ _ ?_)
  clear hK
  replace R0 := Hi (ho.rb R0.out (by omega))
  replace BW := Hi (ho.below w.heap.size (by rw [← HB.out]; omega) w BW.out)
  replace Z0 := Hi hd
  clear hd ho
  go_wp2_with ((with_reducible refine so2 [1000+45] ?_ ?_); (focus rfl))
  refine at9 (by go_simp) fun K0 hK => st_r _ _ (B + 3) (repRt 12 z4 0 0) rfl rfl rfl (repRt_ok (by decide) (by decide) rfl (by decide) (by decide) (by decide) (by decide)) R0.out.2 (by rw [List.size_toArray, Rt.len R0.out.1]) (fun w6 hd ho => hK _ _ ?_)
  clear hK
  replace Z0 := Hi (ho.vb Z0.out (by omega))
  replace BW := Hi (ho.below w.heap.size (by rw [← HB.out]; omega) w BW.out)
  replace R0 := Hi hd
  clear hd ho
  go_wp2_with fail
  exact bodyPost_ret (res_vr rfl _ _ (B + 2) (B + 3) rfl rfl zeroVt (repRt 12 z4 0 0) Z0.out R0.out) rfl ⟨zeroVt, repRt 12 z4 0 0, false, rfl, (doC_err (Or.inl HRQ.out.symm)).symm, zeroVt_ok, Or.inr (Or.inr rfl), R0.out.1, nilB_pn _ _, BW.out⟩
 have HOPS := Hi (Qc.right_op HRQ.out.symm).1
 go_wp2_with ((with_reducible refine so2 [1000+45] ?_ ?_); (focus rfl))
 refine at9 (by go_simp) fun K0 hK => ld_v _ _ v rfl rfl A0.out (hK _ _ ?_)
 clear hK
 go_wp2_with ((with_reducible refine so2 [1000+45] ?_ ?_); (focus rfl))
 refine (C1.out _ BW.out).mono ?_
 rintro e w4 ⟨rfl, x4⟩
 replace A0 := Hi (A0.out.ext x4)
 replace Q0 := Hi (Q0.out.ext x4)
 replace Z0 := Hi (Z0.out.ext x4)
 replace R0 := Hi (R0.out.ext x4)
 replace BW := Hi (Ex.trans BW.out x4)
 clear x4
 cases nv
 case false =>
  go_wp2_with ((with_reducible refine so2 [1000+45] ?_ ?_); (focus rfl))
  refine at9 (by go_simp) fun K0 hK => ld_v _ _ v rfl rfl A0.out (hK _ _ ?_)
  clear hK
  go_wp2_with ((with_reducible refine so2 [1000+45] ?_ ?_); (focus rfl))
  refine (C3.out _ BW.out).mono ?_
  rintro e w5 ⟨rfl, x5⟩
  clear C3
  replace A0 := Hi (A0.out.ext x5)
  replace Q0 := Hi (Q0.out.ext x5)
  replace Z0 := Hi (Z0.out.ext x5)
  replace R0 := Hi (R0.out.ext x5)
  replace BW := Hi (Ex.trans BW.out x5)
  clear x5
  cases rv
  case false =>
   go_wp2_with ((with_reducible refine so2 [1000+45] ?_ ?_); (focus rfl))
   go_wp2_with ((with_reducible refine so2 [1000+45] ?_ ?_); (focus rfl))
   refine at9 (by go_simp) fun K0 hK => wp_build _ _ rfl _ built_zero (hK _ _ ?_)
   clear hK
   go_wp2_with ((with_reducible refine so2 [1000+45] ?_ ?_); (focus rfl))
   refine at9 (by go_simp) fun K0 hK => wp_build _ _ rfl _ built_err (hK _ _ ?_)
   clear hK
   go_wp2_with ((with_reducible refine so2 [1000+45] ?_ ?_); (focus rfl))
   refine at9 (by go_simp) fun K0 hK => st_v _ _ (B + 2) zeroVt rfl rfl rfl zeroVt_ok Z0.out.2 (by rw [List.size_toArray, Vt.len Z0.out.1]) (fun w5 hd ho => hK _ _ ?_)
   clear hK
   replace R0 := Hi (ho.rb R0.out (by omega))
   replace BW := Hi (ho.below w.heap.size (by rw [← HB.out]; omega) w BW.out)
   replace Z0 := Hi hd
   clear hd ho
   go_wp2_with ((with_reducible refine so2 [1000+45] ?_ ?_); (focus rfl))
   refine at9 (by go_simp) fun K0 hK => st_r _ _ (B + 3) (repRt 12 z4 0 0) rfl rfl rfl (repRt_ok (by decide) (by decide) rfl (by decide) (by decide) (by decide) (by decide)) R0.out.2 (by rw [List.size_toArray, Rt.len R0.out.1]) (fun w6 hd ho => hK _ _ ?_)
   clear hK
   replace Z0 := Hi (ho.vb Z0.out (by omega))
   replace BW := Hi (ho.below w.heap.size (by rw [← HB.out]; omega) w BW.out)
   replace R0 := Hi hd
   clear hd ho
   go_wp2_with fail
   exact bodyPost_ret (res_vr rfl _ _ (B + 2) (B + 3) rfl rfl zeroVt (repRt 12 z4 0 0) Z0.out R0.out) rfl ⟨zeroVt, repRt 12 z4 0 0, false, rfl, (doC_err (Or.inr ⟨(fun e => by have h := HNV.out; rw [decide_eq_true e] at h; cases h), Or.inl HRV.out.symm⟩)).symm, zeroVt_ok, Or.inr (Or.inr rfl), R0.out.1, nilB_pn _ _, BW.out⟩
  go_wp2_with ((with_reducible refine so2 [1000+45] ?_ ?_); (focus rfl))
  refine at9 (by go_simp) fun K0 hK => ld_vid _ _ v rfl rfl A0.out (hK _ _ ?_)
  clear hK
  go_wp2_with ((with_reducible refine so2 [1000+45] ?_ ?_); (focus rfl))
  refine at9 (by go_simp) fun K0 hK => ld_qid _ _ q rfl rfl Q0.out (hK _ _ ?_)
  clear hK
  go_wp2_with ((with_reducible refine so2 [1000+45] ?_ ?_); (focus rfl))
  refine at9 (by go_simp) fun K0 hK => wp_neq_id _ _ _ rfl v.id q.id HVI.out.1.idN HQI.out.1.idN rfl rfl (hK _ _ ?_)
  clear hK
  by_cases hid : v.id = q.id
  case neg =>
   rw [decide_eq_false hid]
   simp only [Bool.not_false]
   go_wp2_with ((with_reducible refine so2 [1000+45] ?_ ?_); (focus rfl))
   go_wp2_with ((with_reducible refine so2 [1000+45] ?_ ?_); (focus rfl))
   refine at9 (by go_simp) fun K0 hK => wp_build _ _ rfl _ built_zero (hK _ _ ?_)
   clear hK
   go_wp2_with ((with_reducible refine so2 [1000+45] ?_ ?_); (focus rfl))
   refine at9 (by go_simp) fun K0 hK => wp_build _ _ rfl _ built_err (hK _ _ ?_)
   clear hK
   go_wp2_with ((with_reducible refine so2 [1000+45] ?_ ?_); (focus rfl))
   refine at9 (by go_simp) fun K0 hK => st_v _ _ (B + 2) zeroVt rfl rfl rfl zeroVt_ok Z0.out.2 (by rw [List.size_toArray, Vt.len Z0.out.1]) (fun w5 hd ho => hK _ _ ?_)
   clear hK
   replace R0 := Hi (ho.rb R0.out (by omega))
   replace BW := Hi (ho.below w.heap.size (by rw [← HB.out]; omega) w BW.out)
   replace Z0 := Hi hd
   clear hd ho
   go_wp2_with ((with_reducible refine so2 [1000+45] ?_ ?_); (focus rfl))
   refine at9 (by go_simp) fun K0 hK => st_r _ _ (B + 3) (repRt 12 z4 0 0) rfl rfl rfl (repRt_ok (by decide) (by decide) rfl (by decide) (by decide) (by decide) (by decide)) R0.out.2 (by rw [List.size_toArray, Rt.len R0.out.1]) (fun w6 hd ho => hK _ _ ?_)
   clear hK
   replace Z0 := Hi (ho.vb Z0.out (by omega))
   replace BW := Hi (ho.below w.heap.size (by rw [← HB.out]; omega) w BW.out)
   replace R0 := Hi hd
   clear hd ho
   go_wp2_with fail
   exact bodyPost_ret (res_vr rfl _ _ (B + 2) (B + 3) rfl rfl zeroVt (repRt 12 z4 0 0) Z0.out R0.out) rfl ⟨zeroVt, repRt 12 z4 0 0, false, rfl, (doC_err (Or.inr ⟨(fun e => by have h := HNV.out; rw [decide_eq_true e] at h; cases h), Or.inr hid⟩)).symm, zeroVt_ok, Or.inr (Or.inr rfl), R0.out.1, nilB_pn _ _, BW.out⟩
  rw [decide_eq_true hid]
  simp only [Bool.not_true]
  have HM : Hid (¬ (q.ct.right = false ∨ (v.ct ≠ zeroVc ∧ (v.ct.right = false ∨ v.ct.id ≠ q.ct.id)))) := Hi (fun h => by
   rcases h with h | ⟨_, h | h⟩
   ·rw [← HRQ.out] at h; cases h
   ·rw [← HRV.out] at h; cases h
   ·exact h hid)
  have HRT : Hid (v.ct.right = true) := Hi HRV.out.symm
  clear hid
  go_wp2_with ((with_reducible refine so2 [1000+45] ?_ ?_); (focus rfl))
  refine at9 (by go_simp) fun K0 hK => ld_qid _ _ q rfl rfl Q0.out (hK _ _ ?_)
  clear hK
  obtain ⟨q0, q21, q22, q55, q56⟩ := Q0.out.cells
  obtain ⟨v4, v21, v22, v23, v40, v41⟩ := A0.out.cells
  go_wp2_with ((with_reducible refine so2 [1000+45] ?_ ?_); (focus rfl))
  refine at9 (by go_simp) fun K0 hK => wp_build _ _ rfl _ (built_repG q.id v.gen q.client q.num HQI.out.1.idN) (hK _ _ ?_)
  clear hK
  go_wp2_with ((with_reducible refine so2 [1000+45] ?_ ?_); (focus rfl))
  refine at9 (by go_simp) fun K0 hK => st_r _ _ w5.heap.size (repG q.id v.gen q.client q.num) rfl rfl rfl (repG_ok HQI.out.1.idN HVI.out.1.gen0 HVI.out.1.gen1 HQI.out.1.client0 HQI.out.1.client1 HQI.out.1.num0 HQI.out.1.num1) (Bk.new rfl _ _) (by rfl) (fun w6 hd ho => hK _ _ ?_)
  clear hK
  have x5 : Ex w5 w6 := ho.below w5.heap.size (Nat.le_refl _) w5 (Ex.alloc w5 _)
  have h8 : B + 4 ≤ w5.heap.size := R0.out.lt
  clear q0 q21 q22 q55 q56 v4 v21 v22 v23 v40 v41
  replace A0 := Hi (A0.out.ext x5)
  replace Q0 := Hi (Q0.out.ext x5)
  replace Z0 := Hi (Z0.out.ext x5)
  replace R0 := Hi (R0.out.ext x5)
  replace BW := Hi (Ex.trans BW.out x5)
  clear x5
  generalize w5.heap.size = g8 at hd h8 ⊢
  have Y0 := Hi hd
  have HG8 := Hi h8
  have Y0K := Hi hd.1
  clear hd ho h8
  go_wp2_with ((with_reducible refine so2 [1000+45] ?_ ?_); (focus rfl))
  refine at9 (by go_simp) fun K0 hK => ld_v _ _ v rfl rfl A0.out (hK _ _ ?_)
  clear hK
  go_wp2_with ((with_reducible refine so2 [1000+45] ?_ ?_); (focus rfl))
  refine (C1.out _ BW.out).mono ?_
  rintro e w7 ⟨rfl, x7⟩
  clear C1
  replace A0 := Hi (A0.out.ext x7)
  replace Q0 := Hi (Q0.out.ext x7)
  replace Z0 := Hi (Z0.out.ext x7)
  replace R0 := Hi (R0.out.ext x7)
  replace Y0 := Hi (Y0.out.ext x7)
  replace BW := Hi (Ex.trans BW.out x7)
  clear x7
  obtain ⟨yg, hyg⟩ : ∃ x : Rt, x = repG q.id v.gen q.client q.num := ⟨_, rfl⟩
  rw [← hyg] at Y0
  have HYG := Hi hyg
  clear hyg
  obtain ⟨p, hp⟩ : ∃ p, p = q.op := ⟨_, rfl⟩
  have HOP := Hi hp
  obtain ⟨gn, hgn⟩ : ∃ b, b = v.gone := ⟨_, rfl⟩
  have HGN := Hi hgn
  obtain ⟨q0, q21, q22, q55, q56⟩ := Q0.out.cells
  obtain ⟨v4, v21, v22, v23, v40, v41⟩ := A0.out.cells
  rw [← hp] at q0
  rw [← hgn] at v40
  have hops := HOPS.out
  rw [show q.ct.op = p from hp.symm] at hops
  clear hp hgn q21 q22 q55 q56 v4 v21 v22 v23 v41
  rcases hops with rfl | rfl | rfl | rfl
  ·cases gn
   case false =>
    have YGK : Hid yg.Ok := Hi Y0.out.1
    go_wp2_with ((with_reducible refine so2 [1000+45] ?_ ?_); (focus rfl))
    go_wp2_with ((with_reducible refine so2 [1000+45] ?_ ?_); (focus rfl))
    refine at9 (by go_simp) fun K0 hK => st_rwhy (by kernel_rfl) _ _ g8 yg 14 rfl rfl rfl (by decide) (by decide) Y0.out (fun w8 hd ho => hK _ _ ?_)
    clear hK
    have h8 := HG8.out
    replace A0 := Hi (ho.vb A0.out (by omega))
    replace Z0 := Hi (ho.vb Z0.out (by omega))
    replace R0 := Hi (ho.rb R0.out (by omega))
    replace BW := Hi (ho.below w.heap.size (by rw [← HB.out]; omega) w BW.out)
    obtain ⟨yn, hyn⟩ : ∃ x : Rt, x = { yg with why := 14 } := ⟨_, rfl⟩
    rw [← hyn] at hd
    have HYN := Hi hyn
    replace Y0 := Hi hd
    clear hd ho hyn q0 v40
    go_wp2_with fail
    have hsz : B ≤ w8.heap.size := Nat.le_of_lt A0.out.lt
    have HP : Hid (P5 B w8 B g8 (B + 2) (B + 3) v v yn false false w8.drew) := Hi (P5.start hsz A0.out Y0.out Z0.out R0.out)
    refine ret5 HP.out (by omega) (by omega) (by omega) (by omega) rfl (by kernel_rfl) (by kernel_rfl) (by kernel_rfl) (by kernel_rfl) (by simp) (by simp) rfl rfl rfl rfl ?_
    ·intro f wz f4 hz2 hz3 hk5
     simp only [putAll, Act.put, List.setIfInBounds_toArray, List.set_cons_zero, List.set_cons_succ, Nat.zero_add, Nat.reduceAdd]
     rw [f4]
     clear f4
     go_wp2_with fail
     have hre : refuseC v.ct false q.ct = 14 := by
      unfold refuseC
      rw [if_pos ⟨HOP.out.symm, rfl, HGN.out.symm⟩]
     refine bodyPost_ret (res_vr rfl _ _ (B + 2) (B + 3) rfl rfl v yn hz2 hz3) rfl ⟨v, yn, false, rfl, ?_, hz2.1, Or.inl rfl, hz3.1, ?_, (show Ex w wz from Below.trans BW.out (by rw [← HB.out]; exact hk5.below))⟩
     ·rw [doC_ref HM.out HNV.out hre (by decide), HYN.out, HYG.out]; rfl
     rw [show yn.sec = nilB by rw [HYN.out, HYG.out]; rfl]; exact nilB_pn _ _
   have YGK : Hid yg.Ok := Hi Y0.out.1
   go_wp2_with ((with_reducible refine so2 [1000+45] ?_ ?_); (focus rfl))
   go_wp2_with ((with_reducible refine so2 [1000+45] ?_ ?_); (focus rfl))
   refine at9 (by go_simp) fun K0 hK => ld_v _ _ v rfl rfl A0.out (hK _ _ ?_)
   clear hK
   go_wp2_with ((with_reducible refine so2 [1000+45] ?_ ?_); (focus rfl))
   refine at9 (by go_simp) fun K0 hK => ld_q _ _ q rfl rfl Q0.out (hK _ _ ?_)
   clear hK
   go_wp2_with ((with_reducible refine so2 [1000+45] ?_ ?_); (focus rfl))
   refine at9 (by go_simp) fun K0 hK => ld_r _ _ yg rfl rfl Y0.out (hK _ _ ?_)
   clear hK
   go_wp2_with ((with_reducible refine so2 [1000+45] ?_ ?_); (focus rfl))
   refine (again_any v q yg _ HVI.out.1 HQI.out.1 Y0.out.1).mono ?_
   rintro e w8 ⟨v', y', b, rfl, hz, x8⟩
   have HZ := Hi hz
   clear hz q0 v40
   replace A0 := Hi (A0.out.ext x8)
   replace Q0 := Hi (Q0.out.ext x8)
   replace Z0 := Hi (Z0.out.ext x8)
   replace R0 := Hi (R0.out.ext x8)
   replace BW := Hi (Ex.trans BW.out x8)
   clear x8
   have hgm : v.gen ≤ 1099511627776 := (right_gen (v := v.ct) HRT.out).2
   have HGM := Hi hgm
   clear hgm
   rcases HZ.out with ⟨hg, hv9, hy9, hb9⟩ | ⟨hg, hv9, hy9, hb9⟩
   ·obtain ⟨yn, hyn⟩ : ∃ x : Rt, x = { yg with why := 31 } := ⟨_, rfl⟩
    rw [hv9, hy9, hb9, ← hyn]
    clear hv9 hy9 hb9
    have HYN := Hi hyn
    clear hyn
    have HGE := Hi hg
    clear hg HZ
    have hre : refuseC v.ct false q.ct = 31 := by
     unfold refuseC
     rw [if_neg (fun h => by have := h.2.2; rw [show v.ct.gone = v.gone from rfl, ← HGN.out] at this; cases this), if_neg (fun h => h.1 HOP.out.symm), if_neg (fun h => h.1 HOP.out.symm), if_neg (fun h => by rcases h.1 with h | h <;> (rw [show q.ct.op = q.op from rfl, ← HOP.out] at h; omega)), if_pos ⟨by rw [show q.ct.op = q.op from rfl, ← HOP.out]; decide, by have := HGE.out; have := HGM.out; show v.gen = _; omega⟩]
    have PNS : Hid (PN w8 w.heap.size yn.sec) := Hi (by rw [show yn.sec = nilB by rw [HYN.out, HYG.out]; rfl]; exact nilB_pn _ _)
    have YNK : Hid yn.Ok := Hi (by rw [HYN.out]; exact { YGK.out with why0 := (by show (-9223372036854775808 : Int) ≤ 31; decide), why1 := (by show (31 : Int) ≤ 9223372036854775807; decide) })
    have HRE := Hi hre
    clear hre
    go_wp2_with ((with_reducible refine so2 [1000+45] ?_ ?_); (focus rfl))
    refine at9 (by go_simp) fun K0 hK => st_v _ _ (B + 2) v rfl rfl rfl HVI.out.1 Z0.out.2 (by rw [List.size_toArray, Vt.len Z0.out.1]) (fun w20 hd ho => hK _ _ ?_)
    clear hK
    replace R0 := Hi (ho.rb R0.out (by omega))
    replace PNS := Hi (PNS.out.onlyT ho Z0.out.2 (by decide))
    replace BW := Hi (ho.below w.heap.size (by rw [← HB.out]; omega) w BW.out)
    replace Z0 := Hi hd
    clear hd ho
    go_wp2_with ((with_reducible refine so2 [1000+45] ?_ ?_); (focus rfl))
    refine at9 (by go_simp) fun K0 hK => st_r _ _ (B + 3) yn rfl rfl rfl YNK.out R0.out.2 (by rw [List.size_toArray, Rt.len R0.out.1]) (fun w21 hd ho => hK _ _ ?_)
    clear hK
    replace Z0 := Hi (ho.vb Z0.out (by omega))
    replace PNS := Hi (PNS.out.onlyT ho R0.out.2 (by decide))
    replace BW := Hi (ho.below w.heap.size (by rw [← HB.out]; omega) w BW.out)
    replace R0 := Hi hd
    clear hd ho
    go_wp2_with fail
    exact bodyPost_ret (res_vr rfl _ _ (B + 2) (B + 3) rfl rfl v yn Z0.out R0.out) rfl ⟨v, yn, false, rfl, (by rw [doC_ref HM.out HNV.out HRE.out (by decide), HYN.out, HYG.out]; rfl), Z0.out.1, Or.inl rfl, R0.out.1, PNS.out, BW.out⟩
   obtain ⟨yn, hyn⟩ : ∃ x : Rt, x = { yg with gen := v.gen + 1, left := q.lim } := ⟨_, rfl⟩
   rw [hv9, hy9, hb9, ← hyn]
   clear hv9 hy9 hb9
   have HYN := Hi hyn
   clear hyn
   have HGE := Hi hg
   clear hg HZ
   have hv0 := HVI.out.1.gen0
   have hre : refuseC v.ct false q.ct = 0 := by
    unfold refuseC
    rw [if_neg (fun h => by have := h.2.2; rw [show v.ct.gone = v.gone from rfl, ← HGN.out] at this; cases this), if_neg (fun h => h.1 HOP.out.symm), if_neg (fun h => h.1 HOP.out.symm), if_neg (fun h => by rcases h.1 with h | h <;> (rw [show q.ct.op = q.op from rfl, ← HOP.out] at h; omega)), if_neg (fun h => by have h2 : v.gen = 1099511627776 := h.2; have := HGE.out; omega)]
   have PNS : Hid (PN w8 w.heap.size yn.sec) := Hi (by rw [show yn.sec = nilB by rw [HYN.out, HYG.out]; rfl]; exact nilB_pn _ _)
   have YNK : Hid yn.Ok := Hi (by rw [HYN.out]; have := HGE.out; exact { YGK.out with gen0 := (by show 0 ≤ v.gen + 1; omega), gen1 := (by show v.gen + 1 < 18446744073709551616; omega), left0 := HQI.out.1.lim0, left1 := HQI.out.1.lim1 })
   have HRE := Hi hre
   have HFL := Hi (fr_left (v := v.ct) (q := q.ct) HRQ.out.symm (by rw [show q.ct.op = q.op from rfl, ← HOP.out]; decide) hv0 HGE.out)
   clear hre hv0
   go_wp2_with ((with_reducible refine so2 [1000+45] ?_ ?_); (focus rfl))
   refine at9 (by go_simp) fun K0 hK => st_v _ _ (B + 2) (frVt v q) rfl rfl rfl (frVt_ok HVI.out.1 HQI.out.1 HGE.out) Z0.out.2 (by rw [List.size_toArray, Vt.len Z0.out.1]) (fun w20 hd ho => hK _ _ ?_)
   clear hK
   replace R0 := Hi (ho.rb R0.out (by omega))
   replace PNS := Hi (PNS.out.onlyT ho Z0.out.2 (by decide))
   replace BW := Hi (ho.below w.heap.size (by rw [← HB.out]; omega) w BW.out)
   replace Z0 := Hi hd
   clear hd ho
   go_wp2_with ((with_reducible refine so2 [1000+45] ?_ ?_); (focus rfl))
   refine at9 (by go_simp) fun K0 hK => st_r _ _ (B + 3) yn rfl rfl rfl YNK.out R0.out.2 (by rw [List.size_toArray, Rt.len R0.out.1]) (fun w21 hd ho => hK _ _ ?_)
   clear hK
   replace Z0 := Hi (ho.vb Z0.out (by omega))
   replace PNS := Hi (PNS.out.onlyT ho R0.out.2 (by decide))
   replace BW := Hi (ho.below w.heap.size (by rw [← HB.out]; omega) w BW.out)
   replace R0 := Hi hd
   clear hd ho
   go_wp2_with fail
   exact bodyPost_ret (res_vr rfl _ _ (B + 2) (B + 3) rfl rfl (frVt v q) yn Z0.out R0.out) rfl ⟨(frVt v q), yn, true, rfl, (by rw [doC_act HM.out HNV.out HRE.out, HYN.out, HYG.out]; unfold actC; rw [if_neg (by rw [show q.ct.op = q.op from rfl, ← HOP.out]; decide), if_neg (by rw [show q.ct.op = q.op from rfl, ← HOP.out]; decide), HFL.out]; rfl), Z0.out.1, Or.inr (Or.inl rfl), R0.out.1, PNS.out, BW.out⟩
  ·cases gn
   case false =>
    have YGK : Hid yg.Ok := Hi Y0.out.1
    go_wp2_with ((with_reducible refine so2 [1000+45] ?_ ?_); (focus rfl))
    go_wp2_with ((with_reducible refine so2 [1000+45] ?_ ?_); (focus rfl))
    refine at9 (by go_simp) fun K0 hK => ld_v _ _ v rfl rfl A0.out (hK _ _ ?_)
    clear hK
    go_wp2_with ((with_reducible refine so2 [1000+45] ?_ ?_); (focus rfl))
    refine at9 (by go_simp) fun K0 hK => ld_q _ _ q rfl rfl Q0.out (hK _ _ ?_)
    clear hK
    go_wp2_with ((with_reducible refine so2 [1000+45] ?_ ?_); (focus rfl))
    refine at9 (by go_simp) fun K0 hK => ld_r _ _ yg rfl rfl Y0.out (hK _ _ ?_)
    clear hK
    go_wp2_with ((with_reducible refine so2 [1000+45] ?_ ?_); (focus rfl))
    have sp := right_split (v := v.ct) HRT.out HGN.out.symm
    have u0 : 0 ≤ v.used := sp.2.2.2.2.2.1
    have u1 : v.used < v.lim := sp.2.2.2.2.2.2.1
    have u2 : v.lim ≤ 32 := sp.2.2.2.2.1
    refine (guess11_any v q yg _ (HVI.out.ext BW.out) HVL.out ⟨u0, u1, u2⟩ HQI.out.1 YGK.out).mono ?_
    rintro e w8 ⟨v', y', b, rfl, hz, x8⟩
    have HSZ := Hi BW.out.sz
    have HZ := Hi hz
    clear hz q0 v40
    replace A0 := Hi (A0.out.ext x8)
    replace Q0 := Hi (Q0.out.ext x8)
    replace Z0 := Hi (Z0.out.ext x8)
    replace R0 := Hi (R0.out.ext x8)
    replace BW := Hi (Ex.trans BW.out x8)
    clear x8
    have hre : refuseC v.ct false q.ct = 0 := by
     unfold refuseC
     rw [if_neg (fun h => by have := h.1; rw [show q.ct.op = q.op from rfl, ← HOP.out] at this; omega), if_neg (fun h => by cases h.2), if_neg (fun h => by have := h.2; rw [show v.ct.gone = v.gone from rfl, ← HGN.out] at this; cases this), if_neg (fun h => by rcases h.1 with h | h <;> (rw [show q.ct.op = q.op from rfl, ← HOP.out] at h; omega)), if_neg (fun h => by rcases h.1 with h | h <;> (rw [show q.ct.op = q.op from rfl, ← HOP.out] at h; omega))]
    have HRE := Hi hre
    clear hre
    rcases HZ.out with ⟨hp, hv9, hb9, s5, hs, hps, hy9⟩ | ⟨hp, hb9, hv9, hy9⟩
    ·obtain ⟨yn, hyn⟩ : ∃ x : Rt, x = { yg with sec := s5, left := v.lim - v.used } := ⟨_, rfl⟩
     rw [hv9, hy9, hb9, ← hyn]
     clear hv9 hy9 hb9
     have HYN := Hi hyn
     have HPP := Hi (show q.ct.pin = v.ct.pin from hp)
     have HS5 := Hi hs
     have PNS : Hid (PN w8 w.heap.size yn.sec) := Hi (by rw [hyn]; exact hps.less HSZ.out)
     have YNK : Hid yn.Ok := Hi (by rw [hyn]; exact { YGK.out with left0 := (by show -9223372036854775808 ≤ v.lim - v.used; omega), left1 := (by show v.lim - v.used ≤ 9223372036854775807; omega) })
     clear hyn hp hs hps HZ
     go_wp2_with ((with_reducible refine so2 [1000+45] ?_ ?_); (focus rfl))
     refine at9 (by go_simp) fun K0 hK => st_v _ _ (B + 2) v rfl rfl rfl HVI.out.1 Z0.out.2 (by rw [List.size_toArray, Vt.len Z0.out.1]) (fun w20 hd ho => hK _ _ ?_)
     clear hK
     replace R0 := Hi (ho.rb R0.out (by omega))
     replace PNS := Hi (PNS.out.onlyT ho Z0.out.2 (by decide))
     replace BW := Hi (ho.below w.heap.size (by rw [← HB.out]; omega) w BW.out)
     replace Z0 := Hi hd
     clear hd ho
     go_wp2_with ((with_reducible refine so2 [1000+45] ?_ ?_); (focus rfl))
     refine at9 (by go_simp) fun K0 hK => st_r _ _ (B + 3) yn rfl rfl rfl YNK.out R0.out.2 (by rw [List.size_toArray, Rt.len R0.out.1]) (fun w21 hd ho => hK _ _ ?_)
     clear hK
     replace Z0 := Hi (ho.vb Z0.out (by omega))
     replace PNS := Hi (PNS.out.onlyT ho R0.out.2 (by decide))
     replace BW := Hi (ho.below w.heap.size (by rw [← HB.out]; omega) w BW.out)
     replace R0 := Hi hd
     clear hd ho
     go_wp2_with fail
     exact bodyPost_ret (res_vr rfl _ _ (B + 2) (B + 3) rfl rfl v yn Z0.out R0.out) rfl ⟨v, yn, false, rfl, (by rw [doC_act HM.out HNV.out HRE.out, HYN.out, HYG.out]; unfold actC; rw [if_pos (by rw [show q.ct.op = q.op from rfl, ← HOP.out])]; unfold guessC; rw [if_pos HPP.out, left_of HRT.out HGN.out.symm, ← show s5.l = v.ct.sec from HS5.out]; rfl), Z0.out.1, Or.inl rfl, R0.out.1, PNS.out, BW.out⟩
    obtain ⟨yn, hyn⟩ : ∃ x : Rt, x = { yg with why := 23, left := v.lim - (v.used + 1) } := ⟨_, rfl⟩
    obtain ⟨vn, hvn⟩ : ∃ x : Vt, x = (if v.used + 1 = v.lim then goneVt v.id v.gen true else { v with used := v.used + 1 }) := ⟨_, rfl⟩
    rw [hv9, hy9, hb9, ← hyn, ← hvn]
    clear hv9 hy9 hb9
    have HYN := Hi hyn
    have HVN := Hi hvn
    have HPP := Hi (show q.ct.pin ≠ v.ct.pin from hp)
    have PNS : Hid (PN w8 w.heap.size yn.sec) := Hi (by rw [show yn.sec = nilB by rw [hyn, HYG.out]; rfl]; exact nilB_pn _ _)
    have YNK : Hid yn.Ok := Hi (by rw [hyn]; exact { YGK.out with why0 := (by show (-9223372036854775808 : Int) ≤ 23; decide), why1 := (by show (23 : Int) ≤ 9223372036854775807; decide), left0 := (by show -9223372036854775808 ≤ v.lim - (v.used + 1); omega), left1 := (by show v.lim - (v.used + 1) ≤ 9223372036854775807; omega) })
    have VNK : Hid (vn.Ok ∧ vn.ct = wrongC v.ct ∧ (vn.sec = v.sec ∨ vn.sec = q.sec ∨ vn.sec = nilB)) := Hi (by
     rw [hvn]; unfold wrongC
     by_cases e : v.used + 1 = v.lim
     ·rw [if_pos e, if_pos (show v.ct.used + 1 = v.ct.lim from e)]; exact ⟨goneVt_ok HVI.out.1.idN HVI.out.1.gen0 HVI.out.1.gen1, rfl, Or.inr (Or.inr rfl)⟩
     ·rw [if_neg e, if_neg (show ¬ v.ct.used + 1 = v.ct.lim from e)]; exact ⟨{ HVI.out.1 with used0 := (by show -9223372036854775808 ≤ v.used + 1; omega), used1 := (by show v.used + 1 ≤ 9223372036854775807; omega) }, rfl, Or.inl rfl⟩)
    clear hyn hvn hp HZ
    go_wp2_with ((with_reducible refine so2 [1000+45] ?_ ?_); (focus rfl))
    refine at9 (by go_simp) fun K0 hK => st_v _ _ (B + 2) vn rfl rfl rfl VNK.out.1 Z0.out.2 (by rw [List.size_toArray, Vt.len Z0.out.1]) (fun w20 hd ho => hK _ _ ?_)
    clear hK
    replace R0 := Hi (ho.rb R0.out (by omega))
    replace PNS := Hi (PNS.out.onlyT ho Z0.out.2 (by decide))
    replace BW := Hi (ho.below w.heap.size (by rw [← HB.out]; omega) w BW.out)
    replace Z0 := Hi hd
    clear hd ho
    go_wp2_with ((with_reducible refine so2 [1000+45] ?_ ?_); (focus rfl))
    refine at9 (by go_simp) fun K0 hK => st_r _ _ (B + 3) yn rfl rfl rfl YNK.out R0.out.2 (by rw [List.size_toArray, Rt.len R0.out.1]) (fun w21 hd ho => hK _ _ ?_)
    clear hK
    replace Z0 := Hi (ho.vb Z0.out (by omega))
    replace PNS := Hi (PNS.out.onlyT ho R0.out.2 (by decide))
    replace BW := Hi (ho.below w.heap.size (by rw [← HB.out]; omega) w BW.out)
    replace R0 := Hi hd
    clear hd ho
    go_wp2_with fail
    exact bodyPost_ret (res_vr rfl _ _ (B + 2) (B + 3) rfl rfl vn yn Z0.out R0.out) rfl ⟨vn, yn, true, rfl, (by rw [doC_act HM.out HNV.out HRE.out, HYN.out, HYG.out]; unfold actC; rw [if_pos (by rw [show q.ct.op = q.op from rfl, ← HOP.out])]; unfold guessC; rw [if_neg HPP.out, wrong_left HRT.out HGN.out.symm, VNK.out.2.1]; show _ = (wrongC v.ct, (⟨23, q.id, (wrongC v.ct).gen, v.lim - (v.used + 1), [], q.client, q.num⟩ : Rc), true); rw [(wrong_gen v.ct).1]; rfl), Z0.out.1, VNK.out.2.2, R0.out.1, PNS.out, BW.out⟩
   have YGK : Hid yg.Ok := Hi Y0.out.1
   go_wp2_with ((with_reducible refine so2 [1000+45] ?_ ?_); (focus rfl))
   go_wp2_with ((with_reducible refine so2 [1000+45] ?_ ?_); (focus rfl))
   refine at9 (by go_simp) fun K0 hK => st_rwhy (by kernel_rfl) _ _ g8 yg 24 rfl rfl rfl (by decide) (by decide) Y0.out (fun w8 hd ho => hK _ _ ?_)
   clear hK
   have h8 := HG8.out
   replace A0 := Hi (ho.vb A0.out (by omega))
   replace Z0 := Hi (ho.vb Z0.out (by omega))
   replace R0 := Hi (ho.rb R0.out (by omega))
   replace BW := Hi (ho.below w.heap.size (by rw [← HB.out]; omega) w BW.out)
   obtain ⟨yn, hyn⟩ : ∃ x : Rt, x = { yg with why := 24 } := ⟨_, rfl⟩
   rw [← hyn] at hd
   have HYN := Hi hyn
   replace Y0 := Hi hd
   clear hd ho hyn q0 v40
   go_wp2_with fail
   have hsz : B ≤ w8.heap.size := Nat.le_of_lt A0.out.lt
   have HP : Hid (P5 B w8 B g8 (B + 2) (B + 3) v v yn false false w8.drew) := Hi (P5.start hsz A0.out Y0.out Z0.out R0.out)
   refine ret5 HP.out (by omega) (by omega) (by omega) (by omega) rfl (by kernel_rfl) (by kernel_rfl) (by kernel_rfl) (by kernel_rfl) (by simp) (by simp) rfl rfl rfl rfl ?_
   ·intro f wz f4 hz2 hz3 hk5
    simp only [putAll, Act.put, List.setIfInBounds_toArray, List.set_cons_zero, List.set_cons_succ, Nat.zero_add, Nat.reduceAdd]
    rw [f4]
    clear f4
    go_wp2_with fail
    have hre : refuseC v.ct false q.ct = 24 := by
     unfold refuseC
     rw [if_neg (fun h => by have := h.1; rw [show q.ct.op = q.op from rfl, ← HOP.out] at this; omega), if_neg (fun h => by cases h.2), if_pos ⟨by rw [show q.ct.op = q.op from rfl, ← HOP.out]; decide, HGN.out.symm⟩]
    refine bodyPost_ret (res_vr rfl _ _ (B + 2) (B + 3) rfl rfl v yn hz2 hz3) rfl ⟨v, yn, false, rfl, ?_, hz2.1, Or.inl rfl, hz3.1, ?_, (show Ex w wz from Below.trans BW.out (by rw [← HB.out]; exact hk5.below))⟩
    ·rw [doC_ref HM.out HNV.out hre (by decide), HYN.out, HYG.out]; rfl
    rw [show yn.sec = nilB by rw [HYN.out, HYG.out]; rfl]; exact nilB_pn _ _
  ·cases gn
   case false =>
    have YGK : Hid yg.Ok := Hi Y0.out.1
    go_wp2_with ((with_reducible refine so2 [1000+45] ?_ ?_); (focus rfl))
    go_wp2_with ((with_reducible refine so2 [1000+45] ?_ ?_); (focus rfl))
    refine at9 (by go_simp) fun K0 hK => ld_qown _ _ q rfl rfl Q0.out (hK _ _ ?_)
    clear hK
    go_wp2_with ((with_reducible refine so2 [1000+45] ?_ ?_); (focus rfl))
    refine at9 (by go_simp) fun K0 hK => ld_vown _ _ v rfl rfl A0.out (hK _ _ ?_)
    clear hK
    go_wp2_with ((with_reducible refine so2 [1000+45] ?_ ?_); (focus rfl))
    refine at9 (by go_simp) fun K0 hK => wp_neq_dig _ _ _ rfl q.own v.own HQI.out.1.ownN HVI.out.1.ownN rfl rfl (hK _ _ ?_)
    clear hK
    by_cases how : q.own = v.own
    ·have HOW : Hid (q.ct.own = v.ct.own) := Hi how
     rw [decide_eq_true how]
     simp only [Bool.not_true]
     clear how
     go_wp2_with ((with_reducible refine so2 [1000+45] ?_ ?_); (focus rfl))
     refine at9 (by go_simp) fun K0 hK => ld_v _ _ v rfl rfl A0.out (hK _ _ ?_)
     clear hK
     go_wp2_with ((with_reducible refine so2 [1000+45] ?_ ?_); (focus rfl))
     refine at9 (by go_simp) fun K0 hK => ld_q _ _ q rfl rfl Q0.out (hK _ _ ?_)
     clear hK
     go_wp2_with ((with_reducible refine so2 [1000+45] ?_ ?_); (focus rfl))
     refine at9 (by go_simp) fun K0 hK => ld_r _ _ yg rfl rfl Y0.out (hK _ _ ?_)
     clear hK
     go_wp2_with ((with_reducible refine so2 [1000+45] ?_ ?_); (focus rfl))
     refine (again_any v q yg _ HVI.out.1 HQI.out.1 Y0.out.1).mono ?_
     rintro e w8 ⟨v', y', b, rfl, hz, x8⟩
     have HZ := Hi hz
     clear hz q0 v40
     replace A0 := Hi (A0.out.ext x8)
     replace Q0 := Hi (Q0.out.ext x8)
     replace Z0 := Hi (Z0.out.ext x8)
     replace R0 := Hi (R0.out.ext x8)
     replace BW := Hi (Ex.trans BW.out x8)
     clear x8
     have hgm : v.gen ≤ 1099511627776 := (right_gen (v := v.ct) HRT.out).2
     have HGM := Hi hgm
     clear hgm
     rcases HZ.out with ⟨hg, hv9, hy9, hb9⟩ | ⟨hg, hv9, hy9, hb9⟩
     ·obtain ⟨yn, hyn⟩ : ∃ x : Rt, x = { yg with why := 31 } := ⟨_, rfl⟩
      rw [hv9, hy9, hb9, ← hyn]
      clear hv9 hy9 hb9
      have HYN := Hi hyn
      clear hyn
      have HGE := Hi hg
      clear hg HZ
      have hre : refuseC v.ct false q.ct = 31 := by
       unfold refuseC
       rw [if_neg (fun h => by have := h.1; rw [show q.ct.op = q.op from rfl, ← HOP.out] at this; omega), if_neg (fun h => by cases h.2), if_neg (fun h => by have := h.2; rw [show v.ct.gone = v.gone from rfl, ← HGN.out] at this; cases this), if_neg (fun h => h.2 HOW.out), if_pos ⟨by rw [show q.ct.op = q.op from rfl, ← HOP.out]; decide, by have := HGE.out; have := HGM.out; show v.gen = _; omega⟩]
      have PNS : Hid (PN w8 w.heap.size yn.sec) := Hi (by rw [show yn.sec = nilB by rw [HYN.out, HYG.out]; rfl]; exact nilB_pn _ _)
      have YNK : Hid yn.Ok := Hi (by rw [HYN.out]; exact { YGK.out with why0 := (by show (-9223372036854775808 : Int) ≤ 31; decide), why1 := (by show (31 : Int) ≤ 9223372036854775807; decide) })
      have HRE := Hi hre
      clear hre
      go_wp2_with ((with_reducible refine so2 [1000+45] ?_ ?_); (focus rfl))
      refine at9 (by go_simp) fun K0 hK => st_v _ _ (B + 2) v rfl rfl rfl HVI.out.1 Z0.out.2 (by rw [List.size_toArray, Vt.len Z0.out.1]) (fun w20 hd ho => hK _ _ ?_)
      clear hK
      replace R0 := Hi (ho.rb R0.out (by omega))
      replace PNS := Hi (PNS.out.onlyT ho Z0.out.2 (by decide))
      replace BW := Hi (ho.below w.heap.size (by rw [← HB.out]; omega) w BW.out)
      replace Z0 := Hi hd
      clear hd ho
      go_wp2_with ((with_reducible refine so2 [1000+45] ?_ ?_); (focus rfl))
      refine at9 (by go_simp) fun K0 hK => st_r _ _ (B + 3) yn rfl rfl rfl YNK.out R0.out.2 (by rw [List.size_toArray, Rt.len R0.out.1]) (fun w21 hd ho => hK _ _ ?_)
      clear hK
      replace Z0 := Hi (ho.vb Z0.out (by omega))
      replace PNS := Hi (PNS.out.onlyT ho R0.out.2 (by decide))
      replace BW := Hi (ho.below w.heap.size (by rw [← HB.out]; omega) w BW.out)
      replace R0 := Hi hd
      clear hd ho
      go_wp2_with fail
      exact bodyPost_ret (res_vr rfl _ _ (B + 2) (B + 3) rfl rfl v yn Z0.out R0.out) rfl ⟨v, yn, false, rfl, (by rw [doC_ref HM.out HNV.out HRE.out (by decide), HYN.out, HYG.out]; rfl), Z0.out.1, Or.inl rfl, R0.out.1, PNS.out, BW.out⟩
     obtain ⟨yn, hyn⟩ : ∃ x : Rt, x = { yg with gen := v.gen + 1, left := q.lim } := ⟨_, rfl⟩
     rw [hv9, hy9, hb9, ← hyn]
     clear hv9 hy9 hb9
     have HYN := Hi hyn
     clear hyn
     have HGE := Hi hg
     clear hg HZ
     have hv0 := HVI.out.1.gen0
     have hre : refuseC v.ct false q.ct = 0 := by
      unfold refuseC
      rw [if_neg (fun h => by have := h.1; rw [show q.ct.op = q.op from rfl, ← HOP.out] at this; omega), if_neg (fun h => by cases h.2), if_neg (fun h => by have := h.2; rw [show v.ct.gone = v.gone from rfl, ← HGN.out] at this; cases this), if_neg (fun h => h.2 HOW.out), if_neg (fun h => by have h2 : v.gen = 1099511627776 := h.2; have := HGE.out; omega)]
     have PNS : Hid (PN w8 w.heap.size yn.sec) := Hi (by rw [show yn.sec = nilB by rw [HYN.out, HYG.out]; rfl]; exact nilB_pn _ _)
     have YNK : Hid yn.Ok := Hi (by rw [HYN.out]; have := HGE.out; exact { YGK.out with gen0 := (by show 0 ≤ v.gen + 1; omega), gen1 := (by show v.gen + 1 < 18446744073709551616; omega), left0 := HQI.out.1.lim0, left1 := HQI.out.1.lim1 })
     have HRE := Hi hre
     have HFL := Hi (fr_left (v := v.ct) (q := q.ct) HRQ.out.symm (by rw [show q.ct.op = q.op from rfl, ← HOP.out]; decide) hv0 HGE.out)
     clear hre hv0
     go_wp2_with ((with_reducible refine so2 [1000+45] ?_ ?_); (focus rfl))
     refine at9 (by go_simp) fun K0 hK => st_v _ _ (B + 2) (frVt v q) rfl rfl rfl (frVt_ok HVI.out.1 HQI.out.1 HGE.out) Z0.out.2 (by rw [List.size_toArray, Vt.len Z0.out.1]) (fun w20 hd ho => hK _ _ ?_)
     clear hK
     replace R0 := Hi (ho.rb R0.out (by omega))
     replace PNS := Hi (PNS.out.onlyT ho Z0.out.2 (by decide))
     replace BW := Hi (ho.below w.heap.size (by rw [← HB.out]; omega) w BW.out)
     replace Z0 := Hi hd
     clear hd ho
     go_wp2_with ((with_reducible refine so2 [1000+45] ?_ ?_); (focus rfl))
     refine at9 (by go_simp) fun K0 hK => st_r _ _ (B + 3) yn rfl rfl rfl YNK.out R0.out.2 (by rw [List.size_toArray, Rt.len R0.out.1]) (fun w21 hd ho => hK _ _ ?_)
     clear hK
     replace Z0 := Hi (ho.vb Z0.out (by omega))
     replace PNS := Hi (PNS.out.onlyT ho R0.out.2 (by decide))
     replace BW := Hi (ho.below w.heap.size (by rw [← HB.out]; omega) w BW.out)
     replace R0 := Hi hd
     clear hd ho
     go_wp2_with fail
     exact bodyPost_ret (res_vr rfl _ _ (B + 2) (B + 3) rfl rfl (frVt v q) yn Z0.out R0.out) rfl ⟨(frVt v q), yn, true, rfl, (by rw [doC_act HM.out HNV.out HRE.out, HYN.out, HYG.out]; unfold actC; rw [if_neg (by rw [show q.ct.op = q.op from rfl, ← HOP.out]; decide), if_neg (by rw [show q.ct.op = q.op from rfl, ← HOP.out]; decide), HFL.out]; rfl), Z0.out.1, Or.inr (Or.inl rfl), R0.out.1, PNS.out, BW.out⟩
    have HOW : Hid (q.ct.own ≠ v.ct.own) := Hi how
    rw [decide_eq_false how]
    simp only [Bool.not_false]
    clear how
    go_wp2_with ((with_reducible refine so2 [1000+45] ?_ ?_); (focus rfl))
    refine at9 (by go_simp) fun K0 hK => st_rwhy (by kernel_rfl) _ _ g8 yg 25 rfl rfl rfl (by decide) (by decide) Y0.out (fun w8 hd ho => hK _ _ ?_)
    clear hK
    have h8 := HG8.out
    replace A0 := Hi (ho.vb A0.out (by omega))
    replace Z0 := Hi (ho.vb Z0.out (by omega))
    replace R0 := Hi (ho.rb R0.out (by omega))
    replace BW := Hi (ho.below w.heap.size (by rw [← HB.out]; omega) w BW.out)
    obtain ⟨yn, hyn⟩ : ∃ x : Rt, x = { yg with why := 25 } := ⟨_, rfl⟩
    rw [← hyn] at hd
    have HYN := Hi hyn
    replace Y0 := Hi hd
    clear hd ho hyn q0 v40
    go_wp2_with fail
    have hsz : B ≤ w8.heap.size := Nat.le_of_lt A0.out.lt
    have HP : Hid (P5 B w8 B g8 (B + 2) (B + 3) v v yn false false w8.drew) := Hi (P5.start hsz A0.out Y0.out Z0.out R0.out)
    refine ret5 HP.out (by omega) (by omega) (by omega) (by omega) rfl (by kernel_rfl) (by kernel_rfl) (by kernel_rfl) (by kernel_rfl) (by simp) (by simp) rfl rfl rfl rfl ?_
    ·intro f wz f4 hz2 hz3 hk5
     simp only [putAll, Act.put, List.setIfInBounds_toArray, List.set_cons_zero, List.set_cons_succ, Nat.zero_add, Nat.reduceAdd]
     rw [f4]
     clear f4
     go_wp2_with fail
     have hre : refuseC v.ct false q.ct = 25 := by
      unfold refuseC
      rw [if_neg (fun h => by have := h.1; rw [show q.ct.op = q.op from rfl, ← HOP.out] at this; omega), if_neg (fun h => by cases h.2), if_neg (fun h => by have := h.2; rw [show v.ct.gone = v.gone from rfl, ← HGN.out] at this; cases this), if_pos ⟨by rw [show q.ct.op = q.op from rfl, ← HOP.out]; decide, HOW.out⟩]
     refine bodyPost_ret (res_vr rfl _ _ (B + 2) (B + 3) rfl rfl v yn hz2 hz3) rfl ⟨v, yn, false, rfl, ?_, hz2.1, Or.inl rfl, hz3.1, ?_, (show Ex w wz from Below.trans BW.out (by rw [← HB.out]; exact hk5.below))⟩
     ·rw [doC_ref HM.out HNV.out hre (by decide), HYN.out, HYG.out]; rfl
     rw [show yn.sec = nilB by rw [HYN.out, HYG.out]; rfl]; exact nilB_pn _ _
   have YGK : Hid yg.Ok := Hi Y0.out.1
   go_wp2_with ((with_reducible refine so2 [1000+45] ?_ ?_); (focus rfl))
   go_wp2_with ((with_reducible refine so2 [1000+45] ?_ ?_); (focus rfl))
   refine at9 (by go_simp) fun K0 hK => st_rwhy (by kernel_rfl) _ _ g8 yg 24 rfl rfl rfl (by decide) (by decide) Y0.out (fun w8 hd ho => hK _ _ ?_)
   clear hK
   have h8 := HG8.out
   replace A0 := Hi (ho.vb A0.out (by omega))
   replace Z0 := Hi (ho.vb Z0.out (by omega))
   replace R0 := Hi (ho.rb R0.out (by omega))
   replace BW := Hi (ho.below w.heap.size (by rw [← HB.out]; omega) w BW.out)
   obtain ⟨yn, hyn⟩ : ∃ x : Rt, x = { yg with why := 24 } := ⟨_, rfl⟩
   rw [← hyn] at hd
   have HYN := Hi hyn
   replace Y0 := Hi hd
   clear hd ho hyn q0 v40
   go_wp2_with fail
   have hsz : B ≤ w8.heap.size := Nat.le_of_lt A0.out.lt
   have HP : Hid (P5 B w8 B g8 (B + 2) (B + 3) v v yn false false w8.drew) := Hi (P5.start hsz A0.out Y0.out Z0.out R0.out)
   refine ret5 HP.out (by omega) (by omega) (by omega) (by omega) rfl (by kernel_rfl) (by kernel_rfl) (by kernel_rfl) (by kernel_rfl) (by simp) (by simp) rfl rfl rfl rfl ?_
   ·intro f wz f4 hz2 hz3 hk5
    simp only [putAll, Act.put, List.setIfInBounds_toArray, List.set_cons_zero, List.set_cons_succ, Nat.zero_add, Nat.reduceAdd]
    rw [f4]
    clear f4
    go_wp2_with fail
    have hre : refuseC v.ct false q.ct = 24 := by
     unfold refuseC
     rw [if_neg (fun h => by have := h.1; rw [show q.ct.op = q.op from rfl, ← HOP.out] at this; omega), if_neg (fun h => by cases h.2), if_pos ⟨by rw [show q.ct.op = q.op from rfl, ← HOP.out]; decide, HGN.out.symm⟩]
    refine bodyPost_ret (res_vr rfl _ _ (B + 2) (B + 3) rfl rfl v yn hz2 hz3) rfl ⟨v, yn, false, rfl, ?_, hz2.1, Or.inl rfl, hz3.1, ?_, (show Ex w wz from Below.trans BW.out (by rw [← HB.out]; exact hk5.below))⟩
    ·rw [doC_ref HM.out HNV.out hre (by decide), HYN.out, HYG.out]; rfl
    rw [show yn.sec = nilB by rw [HYN.out, HYG.out]; rfl]; exact nilB_pn _ _
  cases gn
  case false =>
   have YGK : Hid yg.Ok := Hi Y0.out.1
   go_wp2_with ((with_reducible refine so2 [1000+45] ?_ ?_); (focus rfl))
   go_wp2_with ((with_reducible refine so2 [1000+45] ?_ ?_); (focus rfl))
   refine at9 (by go_simp) fun K0 hK => ld_qown _ _ q rfl rfl Q0.out (hK _ _ ?_)
   clear hK
   go_wp2_with ((with_reducible refine so2 [1000+45] ?_ ?_); (focus rfl))
   refine at9 (by go_simp) fun K0 hK => ld_vown _ _ v rfl rfl A0.out (hK _ _ ?_)
   clear hK
   go_wp2_with ((with_reducible refine so2 [1000+45] ?_ ?_); (focus rfl))
   refine at9 (by go_simp) fun K0 hK => wp_neq_dig _ _ _ rfl q.own v.own HQI.out.1.ownN HVI.out.1.ownN rfl rfl (hK _ _ ?_)
   clear hK
   by_cases how : q.own = v.own
   ·have HOW : Hid (q.ct.own = v.ct.own) := Hi how
    rw [decide_eq_true how]
    simp only [Bool.not_true]
    clear how
    go_wp2_with ((with_reducible refine so2 [1000+45] ?_ ?_); (focus rfl))
    clear q0 v40
    go_wp2_with fail
    have hS0 : ∀ (listed : Array Bool) (_ : Nat → Value), (∀ i, listed.getD i false = false) → P5 B w7 B g8 (B + 2) (B + 3) v (goneVt v.id v.gen false) yg (listed.getD 6 false) (listed.getD 7 false) w7.drew := fun listed _ h0 => by rw [h0 6, h0 7]; exact P5.start (Nat.le_of_lt A0.out.lt) A0.out Y0.out Z0.out R0.out
    obtain ⟨T, hT⟩ : ∃ T : List (Value → Prop), T = [(fun zz => zz = .pointer (some ⟨B, 0, none⟩)), (fun zz => zz = digV v.id), (fun zz => zz = .pointer (some ⟨B, 4, none⟩)), (fun zz => zz = .int .u64 v.gen), (fun zz => zz = (goneVt v.id v.gen false).V), (fun zz => zz = yg.V), (fun _ => True), (fun _ => True), (fun zz => zz = .bool true)] := ⟨_, rfl⟩
    refine wp_region_gen (JS T ([] : List (Nat × Nat)) (fun listed _ w => P5 B w7 B g8 (B + 2) (B + 3) v (goneVt v.id v.gen false) yg (listed.getD 6 false) (listed.getD 7 false) w)) (by kernel_rfl) (by kernel_rfl) (by kernel_rfl) (fitB_spec (by kernel_rfl)) (fun listed f h => JS.start listed f h (hS0 listed f h)) ?_ ?_
    ·intro i o ho
     have hi : i < 9 := (Array.getElem?_eq_some_iff.1 ho).1
     have hi' : i = 0 ∨ i = 1 ∨ i = 2 ∨ i = 3 ∨ i = 4 ∨ i = 5 ∨ i = 6 ∨ i = 7 ∨ i = 8 := by omega
     clear hi
     rcases hi' with rfl | rfl | rfl | rfl | rfl | rfl | rfl | rfl | rfl
     all_goals (simp only [List.getElem?_toArray, List.getElem?_cons_zero, List.getElem?_cons_succ, Option.some.injEq] at ho; subst ho; intro listed f a wz hJ hsz hls hun hdep hout hlat; first | (rw [if_pos (by rfl)]; intro K hK) | skip)
     ·have q2 := hout 2 (outB_spec (by kernel_rfl))
      rw [Array.getD_eq_getD_getElem?] at q2
      clear hsz hdep hout hlat
      go_simp
      exact hK _ _ (hJ.nx hls hT rfl rfl (by show P5 B w7 B g8 (B + 2) (B + 3) v (goneVt v.id v.gen false) yg ((listed.setIfInBounds 0 true).getD 6 false) ((listed.setIfInBounds 0 true).getD 7 false) _; rw [gset (by decide) false, gset (by decide) false]; exact hJ.st) (no_head (by decide)))
     ·have q43 := hJ.is hT (hdep ⟨0, .data⟩ (by simp) rfl) rfl _ rfl _ rfl
      exact ld_vid _ B v rfl q43 (P5.va hJ.st) (hK _ _ (hJ.nx hls hT rfl rfl (by show P5 B w7 B g8 (B + 2) (B + 3) v (goneVt v.id v.gen false) yg ((listed.setIfInBounds 1 true).getD 6 false) ((listed.setIfInBounds 1 true).getD 7 false) _; rw [gset (by decide) false, gset (by decide) false]; exact hJ.st) (no_head (by decide))))
     ·have q2 := hout 2 (outB_spec (by kernel_rfl))
      rw [Array.getD_eq_getD_getElem?] at q2
      clear hsz hdep hout hlat
      go_simp
      exact hK _ _ (hJ.nx hls hT rfl rfl (by show P5 B w7 B g8 (B + 2) (B + 3) v (goneVt v.id v.gen false) yg ((listed.setIfInBounds 2 true).getD 6 false) ((listed.setIfInBounds 2 true).getD 7 false) _; rw [gset (by decide) false, gset (by decide) false]; exact hJ.st) (no_head (by decide)))
     ·have q45 := hJ.iq hT (hdep ⟨2, .data⟩ (by simp) rfl) rfl _ rfl _ rfl
      obtain ⟨v4, -⟩ := VB.cells (P5.va hJ.st)
      clear hsz hdep hout hlat
      go_simp
      exact hK _ _ (hJ.nx hls hT rfl rfl (by show P5 B w7 B g8 (B + 2) (B + 3) v (goneVt v.id v.gen false) yg ((listed.setIfInBounds 3 true).getD 6 false) ((listed.setIfInBounds 3 true).getD 7 false) _; rw [gset (by decide) false, gset (by decide) false]; exact hJ.st) (no_head (by decide)))
     ·have q44 := hJ.is hT (hdep ⟨1, .data⟩ (by simp) rfl) rfl _ rfl _ rfl
      have q46 := hJ.is hT (hdep ⟨3, .data⟩ (by simp) rfl) rfl _ rfl _ rfl
      refine wp_build _ _ rfl _ ?_ (hK _ _ (hJ.nx hls hT rfl rfl (by show P5 B w7 B g8 (B + 2) (B + 3) v (goneVt v.id v.gen false) yg ((listed.setIfInBounds 4 true).getD 6 false) ((listed.setIfInBounds 4 true).getD 7 false) _; rw [gset (by decide) false, gset (by decide) false]; exact hJ.st) (no_head (by decide))))
      show Try.prog.built 36 [(0, a.tmps.getD 44 undef), (1, a.tmps.getD 46 undef), (7, .bool true)] = _
      rw [q44, q46]
      exact built_gone3 v.id v.gen HVI.out.1.idN
     ·have q7 := hout 7 (outB_spec (by kernel_rfl))
      exact ld_r _ g8 yg rfl q7 (P5.rb hJ.st) (hK _ _ (hJ.nx hls hT rfl rfl (by show P5 B w7 B g8 (B + 2) (B + 3) v (goneVt v.id v.gen false) yg ((listed.setIfInBounds 5 true).getD 6 false) ((listed.setIfInBounds 5 true).getD 7 false) _; rw [gset (by decide) false, gset (by decide) false]; exact hJ.st) (no_head (by decide))))
     ·have q4 := hout 4 (outB_spec (by kernel_rfl))
      have q47 := hJ.is hT (hdep ⟨4, .data⟩ (by simp) rfl) rfl _ rfl _ rfl
      obtain ⟨z, hz, _⟩ := P5.vc hJ.st
      exact st_v _ _ (B + 2) (goneVt v.id v.gen false) rfl q4 q47 (goneVt_ok HVI.out.1.idN HVI.out.1.gen0 HVI.out.1.gen1) hz.2 (by rw [List.size_toArray, Vt.len hz.1]) (fun wst hd ho => hK _ _ (hJ.nx hls hT rfl (by trivial) (by show P5 B w7 B g8 (B + 2) (B + 3) v (goneVt v.id v.gen false) yg ((listed.setIfInBounds 6 true).getD 6 false) ((listed.setIfInBounds 6 true).getD 7 false) _; rw [set_new (by rw [hls]; decide), gset (by decide) false]; exact P5.s2 hJ.st (by omega) (by omega) hd ho) (no_head (by decide))))
     ·have q5 := hout 5 (outB_spec (by kernel_rfl))
      have q48 := hJ.is hT (hdep ⟨5, .data⟩ (by simp) rfl) rfl _ rfl _ rfl
      obtain ⟨z, hz, _⟩ := P5.rd hJ.st
      have h8 := HG8.out
      exact st_r _ _ (B + 3) yg rfl q5 q48 (P5.rb hJ.st).1 hz.2 (by rw [List.size_toArray, Rt.len hz.1]) (fun wst hd ho => hK _ _ (hJ.nx hls hT rfl (by trivial) (by show P5 B w7 B g8 (B + 2) (B + 3) v (goneVt v.id v.gen false) yg ((listed.setIfInBounds 7 true).getD 6 false) ((listed.setIfInBounds 7 true).getD 7 false) _; rw [gset (by decide) false, set_new (by rw [hls]; decide)]; exact P5.s3 hJ.st (by omega) (by omega) hd ho) (no_head (by decide))))
     clear hsz hdep hout hlat
     go_simp
     exact hK _ _ (hJ.nx hls hT rfl rfl (by show P5 B w7 B g8 (B + 2) (B + 3) v (goneVt v.id v.gen false) yg ((listed.setIfInBounds 8 true).getD 6 false) ((listed.setIfInBounds 8 true).getD 7 false) _; rw [gset (by decide) false, gset (by decide) false]; exact hJ.st) (no_head (by decide)))
    intro listed f wz hall hJ
    have f8 : f 8 = .bool true := by
     have h := hJ.vals 8 (hall 8 (by simp))
     rw [hT] at h; exact h
    have hst := hJ.st
    simp only [putAll, Act.put, List.setIfInBounds_toArray, List.set_cons_zero, List.set_cons_succ, Nat.zero_add, Nat.reduceAdd]
    have hst : P5 B w7 B g8 (B + 2) (B + 3) v (goneVt v.id v.gen false) yg (listed.getD 6 false) (listed.getD 7 false) wz := hst
    rw [hall 6 (by simp), hall 7 (by simp)] at hst
    obtain ⟨z2, hz2, ez2⟩ := hst.vc
    obtain ⟨z3, hz3, ez3⟩ := hst.rd
    rw [ez2 rfl] at hz2
    rw [ez3 rfl] at hz3
    have hk5 := hst.k
    clear ez2 ez3 hst
    rw [f8]
    clear f8
    clear hJ hall hT
    go_wp2_with fail
    have hre : refuseC v.ct false q.ct = 0 := by
     unfold refuseC
     rw [if_neg (fun h => by have := h.1; rw [show q.ct.op = q.op from rfl, ← HOP.out] at this; omega), if_neg (fun h => by cases h.2), if_neg (fun h => by have := h.2; rw [show v.ct.gone = v.gone from rfl, ← HGN.out] at this; cases this), if_neg (fun h => h.2 HOW.out), if_neg (fun h => by rcases h.1 with h | h <;> (rw [show q.ct.op = q.op from rfl, ← HOP.out] at h; omega))]
    refine bodyPost_ret (res_vr rfl _ _ (B + 2) (B + 3) rfl rfl (goneVt v.id v.gen false) yg hz2 hz3) rfl ⟨goneVt v.id v.gen false, yg, true, rfl, ?_, hz2.1, Or.inr (Or.inr rfl), hz3.1, ?_, (show Ex w wz from Below.trans BW.out (by rw [← HB.out]; exact hk5.below))⟩
    ·rw [doC_act HM.out HNV.out hre, HYG.out]; unfold actC; rw [if_neg (by rw [show q.ct.op = q.op from rfl, ← HOP.out]; decide), if_pos (by rw [show q.ct.op = q.op from rfl, ← HOP.out])]; rfl
    rw [show yg.sec = nilB by rw [HYG.out]; rfl]; exact nilB_pn _ _
   have HOW : Hid (q.ct.own ≠ v.ct.own) := Hi how
   rw [decide_eq_false how]
   simp only [Bool.not_false]
   clear how
   go_wp2_with ((with_reducible refine so2 [1000+45] ?_ ?_); (focus rfl))
   refine at9 (by go_simp) fun K0 hK => st_rwhy (by kernel_rfl) _ _ g8 yg 25 rfl rfl rfl (by decide) (by decide) Y0.out (fun w8 hd ho => hK _ _ ?_)
   clear hK
   have h8 := HG8.out
   replace A0 := Hi (ho.vb A0.out (by omega))
   replace Z0 := Hi (ho.vb Z0.out (by omega))
   replace R0 := Hi (ho.rb R0.out (by omega))
   replace BW := Hi (ho.below w.heap.size (by rw [← HB.out]; omega) w BW.out)
   obtain ⟨yn, hyn⟩ : ∃ x : Rt, x = { yg with why := 25 } := ⟨_, rfl⟩
   rw [← hyn] at hd
   have HYN := Hi hyn
   replace Y0 := Hi hd
   clear hd ho hyn q0 v40
   go_wp2_with fail
   have hsz : B ≤ w8.heap.size := Nat.le_of_lt A0.out.lt
   have HP : Hid (P5 B w8 B g8 (B + 2) (B + 3) v v yn false false w8.drew) := Hi (P5.start hsz A0.out Y0.out Z0.out R0.out)
   refine ret5 HP.out (by omega) (by omega) (by omega) (by omega) rfl (by kernel_rfl) (by kernel_rfl) (by kernel_rfl) (by kernel_rfl) (by simp) (by simp) rfl rfl rfl rfl ?_
   ·intro f wz f4 hz2 hz3 hk5
    simp only [putAll, Act.put, List.setIfInBounds_toArray, List.set_cons_zero, List.set_cons_succ, Nat.zero_add, Nat.reduceAdd]
    rw [f4]
    clear f4
    go_wp2_with fail
    have hre : refuseC v.ct false q.ct = 25 := by
     unfold refuseC
     rw [if_neg (fun h => by have := h.1; rw [show q.ct.op = q.op from rfl, ← HOP.out] at this; omega), if_neg (fun h => by cases h.2), if_neg (fun h => by have := h.2; rw [show v.ct.gone = v.gone from rfl, ← HGN.out] at this; cases this), if_pos ⟨by rw [show q.ct.op = q.op from rfl, ← HOP.out]; decide, HOW.out⟩]
    refine bodyPost_ret (res_vr rfl _ _ (B + 2) (B + 3) rfl rfl v yn hz2 hz3) rfl ⟨v, yn, false, rfl, ?_, hz2.1, Or.inl rfl, hz3.1, ?_, (show Ex w wz from Below.trans BW.out (by rw [← HB.out]; exact hk5.below))⟩
    ·rw [doC_ref HM.out HNV.out hre (by decide), HYN.out, HYG.out]; rfl
    rw [show yn.sec = nilB by rw [HYN.out, HYG.out]; rfl]; exact nilB_pn _ _
  have YGK : Hid yg.Ok := Hi Y0.out.1
  go_wp2_with ((with_reducible refine so2 [1000+45] ?_ ?_); (focus rfl))
  go_wp2_with ((with_reducible refine so2 [1000+45] ?_ ?_); (focus rfl))
  refine at9 (by go_simp) fun K0 hK => st_rwhy (by kernel_rfl) _ _ g8 yg 24 rfl rfl rfl (by decide) (by decide) Y0.out (fun w8 hd ho => hK _ _ ?_)
  clear hK
  have h8 := HG8.out
  replace A0 := Hi (ho.vb A0.out (by omega))
  replace Z0 := Hi (ho.vb Z0.out (by omega))
  replace R0 := Hi (ho.rb R0.out (by omega))
  replace BW := Hi (ho.below w.heap.size (by rw [← HB.out]; omega) w BW.out)
  obtain ⟨yn, hyn⟩ : ∃ x : Rt, x = { yg with why := 24 } := ⟨_, rfl⟩
  rw [← hyn] at hd
  have HYN := Hi hyn
  replace Y0 := Hi hd
  clear hd ho hyn q0 v40
  go_wp2_with fail
  have hsz : B ≤ w8.heap.size := Nat.le_of_lt A0.out.lt
  have HP : Hid (P5 B w8 B g8 (B + 2) (B + 3) v v yn false false w8.drew) := Hi (P5.start hsz A0.out Y0.out Z0.out R0.out)
  refine ret5 HP.out (by omega) (by omega) (by omega) (by omega) rfl (by kernel_rfl) (by kernel_rfl) (by kernel_rfl) (by kernel_rfl) (by simp) (by simp) rfl rfl rfl rfl ?_
  ·intro f wz f4 hz2 hz3 hk5
   simp only [putAll, Act.put, List.setIfInBounds_toArray, List.set_cons_zero, List.set_cons_succ, Nat.zero_add, Nat.reduceAdd]
   rw [f4]
   clear f4
   go_wp2_with fail
   have hre : refuseC v.ct false q.ct = 24 := by
    unfold refuseC
    rw [if_neg (fun h => by have := h.1; rw [show q.ct.op = q.op from rfl, ← HOP.out] at this; omega), if_neg (fun h => by cases h.2), if_pos ⟨by rw [show q.ct.op = q.op from rfl, ← HOP.out]; decide, HGN.out.symm⟩]
   refine bodyPost_ret (res_vr rfl _ _ (B + 2) (B + 3) rfl rfl v yn hz2 hz3) rfl ⟨v, yn, false, rfl, ?_, hz2.1, Or.inl rfl, hz3.1, ?_, (show Ex w wz from Below.trans BW.out (by rw [← HB.out]; exact hk5.below))⟩
   ·rw [doC_ref HM.out HNV.out hre (by decide), HYN.out, HYG.out]; rfl
   rw [show yn.sec = nilB by rw [HYN.out, HYG.out]; rfl]; exact nilB_pn _ _
 have HM : Hid (¬ (q.ct.right = false ∨ (v.ct ≠ zeroVc ∧ (v.ct.right = false ∨ v.ct.id ≠ q.ct.id)))) := Hi (fun h => by
  rcases h with h | ⟨h, _⟩
  ·rw [← HRQ.out] at h; cases h
  ·exact h (of_decide_eq_true HNV.out.symm))
 clear C3
 go_wp2_with ((with_reducible refine so2 [1000+45] ?_ ?_); (focus rfl))
 (first | ((with_reducible refine at8 ?_ ?_); (focus (go_simp; done)); go_wp2_with ((with_reducible refine so2 [1000+45] ?_ ?_); (focus rfl))) | skip)
 go_wp2_with ((with_reducible refine so2 [1000+45] ?_ ?_); (focus rfl))
 refine at9 (by go_simp) fun K0 hK => ld_qid _ _ q rfl rfl Q0.out (hK _ _ ?_)
 clear hK
 obtain ⟨q0, q21, q22, q55, q56⟩ := Q0.out.cells
 obtain ⟨v4, v21, v22, v23, v40, v41⟩ := A0.out.cells
 go_wp2_with ((with_reducible refine so2 [1000+45] ?_ ?_); (focus rfl))
 refine at9 (by go_simp) fun K0 hK => wp_build _ _ rfl _ (built_repG q.id v.gen q.client q.num HQI.out.1.idN) (hK _ _ ?_)
 clear hK
 go_wp2_with ((with_reducible refine so2 [1000+45] ?_ ?_); (focus rfl))
 refine at9 (by go_simp) fun K0 hK => st_r _ _ w4.heap.size (repG q.id v.gen q.client q.num) rfl rfl rfl (repG_ok HQI.out.1.idN HVI.out.1.gen0 HVI.out.1.gen1 HQI.out.1.client0 HQI.out.1.client1 HQI.out.1.num0 HQI.out.1.num1) (Bk.new rfl _ _) (by rfl) (fun w6 hd ho => hK _ _ ?_)
 clear hK
 have x5 : Ex w4 w6 := ho.below w4.heap.size (Nat.le_refl _) w4 (Ex.alloc w4 _)
 have h8 : B + 4 ≤ w4.heap.size := R0.out.lt
 clear q0 q21 q22 q55 q56 v4 v21 v22 v23 v40 v41
 replace A0 := Hi (A0.out.ext x5)
 replace Q0 := Hi (Q0.out.ext x5)
 replace Z0 := Hi (Z0.out.ext x5)
 replace R0 := Hi (R0.out.ext x5)
 replace BW := Hi (Ex.trans BW.out x5)
 clear x5
 generalize w4.heap.size = g8 at hd h8 ⊢
 have Y0 := Hi hd
 have HG8 := Hi h8
 have Y0K := Hi hd.1
 clear hd ho h8
 go_wp2_with ((with_reducible refine so2 [1000+45] ?_ ?_); (focus rfl))
 refine at9 (by go_simp) fun K0 hK => ld_v _ _ v rfl rfl A0.out (hK _ _ ?_)
 clear hK
 go_wp2_with ((with_reducible refine so2 [1000+45] ?_ ?_); (focus rfl))
 refine (C1.out _ BW.out).mono ?_
 rintro e w7 ⟨rfl, x7⟩
 clear C1
 replace A0 := Hi (A0.out.ext x7)
 replace Q0 := Hi (Q0.out.ext x7)
 replace Z0 := Hi (Z0.out.ext x7)
 replace R0 := Hi (R0.out.ext x7)
 replace Y0 := Hi (Y0.out.ext x7)
 replace BW := Hi (Ex.trans BW.out x7)
 clear x7
 obtain ⟨yg, hyg⟩ : ∃ x : Rt, x = repG q.id v.gen q.client q.num := ⟨_, rfl⟩
 rw [← hyg] at Y0
 have HYG := Hi hyg
 clear hyg
 obtain ⟨p, hp⟩ : ∃ p, p = q.op := ⟨_, rfl⟩
 have HOP := Hi hp
 obtain ⟨gn, hgn⟩ : ∃ b, b = v.gone := ⟨_, rfl⟩
 have HGN := Hi hgn
 obtain ⟨q0, q21, q22, q55, q56⟩ := Q0.out.cells
 obtain ⟨v4, v21, v22, v23, v40, v41⟩ := A0.out.cells
 rw [← hp] at q0
 rw [← hgn] at v40
 have hops := HOPS.out
 rw [show q.ct.op = p from hp.symm] at hops
 clear hp hgn q21 q22 q55 q56 v4 v21 v22 v23 v41
 have hvz := of_decide_eq_true HNV.out.symm
 have hgf : gn = false := by rw [HGN.out]; exact congrArg Vc.gone hvz
 have HVZ := Hi hvz
 subst hgf
 clear hvz
 rcases hops with rfl | rfl | rfl | rfl
 ·have YGK : Hid yg.Ok := Hi Y0.out.1
  go_wp2_with ((with_reducible refine so2 [1000+45] ?_ ?_); (focus rfl))
  go_wp2_with ((with_reducible refine so2 [1000+45] ?_ ?_); (focus rfl))
  refine at9 (by go_simp) fun K0 hK => ld_v _ _ v rfl rfl A0.out (hK _ _ ?_)
  clear hK
  go_wp2_with ((with_reducible refine so2 [1000+45] ?_ ?_); (focus rfl))
  refine at9 (by go_simp) fun K0 hK => ld_q _ _ q rfl rfl Q0.out (hK _ _ ?_)
  clear hK
  go_wp2_with ((with_reducible refine so2 [1000+45] ?_ ?_); (focus rfl))
  refine at9 (by go_simp) fun K0 hK => ld_r _ _ yg rfl rfl Y0.out (hK _ _ ?_)
  clear hK
  go_wp2_with ((with_reducible refine so2 [1000+45] ?_ ?_); (focus rfl))
  refine (again_any v q yg _ HVI.out.1 HQI.out.1 Y0.out.1).mono ?_
  rintro e w8 ⟨v', y', b, rfl, hz, x8⟩
  have HZ := Hi hz
  clear hz q0 v40
  replace A0 := Hi (A0.out.ext x8)
  replace Q0 := Hi (Q0.out.ext x8)
  replace Z0 := Hi (Z0.out.ext x8)
  replace R0 := Hi (R0.out.ext x8)
  replace BW := Hi (Ex.trans BW.out x8)
  clear x8
  have hgm : v.gen ≤ 1099511627776 := by rw [show v.gen = 0 from congrArg Vc.gen HVZ.out]; decide
  have HGM := Hi hgm
  clear hgm
  rcases HZ.out with ⟨hg, hv9, hy9, hb9⟩ | ⟨hg, hv9, hy9, hb9⟩
  ·obtain ⟨yn, hyn⟩ : ∃ x : Rt, x = { yg with why := 31 } := ⟨_, rfl⟩
   rw [hv9, hy9, hb9, ← hyn]
   clear hv9 hy9 hb9
   have HYN := Hi hyn
   clear hyn
   have HGE := Hi hg
   clear hg HZ
   have hre : refuseC v.ct true q.ct = 31 := by
    unfold refuseC
    rw [if_neg (fun h => by cases h.2.1), if_neg (fun h => h.1 HOP.out.symm), if_neg (fun h => h.1 HOP.out.symm), if_neg (fun h => by rcases h.1 with h | h <;> (rw [show q.ct.op = q.op from rfl, ← HOP.out] at h; omega)), if_pos ⟨by rw [show q.ct.op = q.op from rfl, ← HOP.out]; decide, by have := HGE.out; have := HGM.out; show v.gen = _; omega⟩]
   have PNS : Hid (PN w8 w.heap.size yn.sec) := Hi (by rw [show yn.sec = nilB by rw [HYN.out, HYG.out]; rfl]; exact nilB_pn _ _)
   have YNK : Hid yn.Ok := Hi (by rw [HYN.out]; exact { YGK.out with why0 := (by show (-9223372036854775808 : Int) ≤ 31; decide), why1 := (by show (31 : Int) ≤ 9223372036854775807; decide) })
   have HRE := Hi hre
   clear hre
   go_wp2_with ((with_reducible refine so2 [1000+45] ?_ ?_); (focus rfl))
   refine at9 (by go_simp) fun K0 hK => st_v _ _ (B + 2) v rfl rfl rfl HVI.out.1 Z0.out.2 (by rw [List.size_toArray, Vt.len Z0.out.1]) (fun w20 hd ho => hK _ _ ?_)
   clear hK
   replace R0 := Hi (ho.rb R0.out (by omega))
   replace PNS := Hi (PNS.out.onlyT ho Z0.out.2 (by decide))
   replace BW := Hi (ho.below w.heap.size (by rw [← HB.out]; omega) w BW.out)
   replace Z0 := Hi hd
   clear hd ho
   go_wp2_with ((with_reducible refine so2 [1000+45] ?_ ?_); (focus rfl))
   refine at9 (by go_simp) fun K0 hK => st_r _ _ (B + 3) yn rfl rfl rfl YNK.out R0.out.2 (by rw [List.size_toArray, Rt.len R0.out.1]) (fun w21 hd ho => hK _ _ ?_)
   clear hK
   replace Z0 := Hi (ho.vb Z0.out (by omega))
   replace PNS := Hi (PNS.out.onlyT ho R0.out.2 (by decide))
   replace BW := Hi (ho.below w.heap.size (by rw [← HB.out]; omega) w BW.out)
   replace R0 := Hi hd
   clear hd ho
   go_wp2_with fail
   exact bodyPost_ret (res_vr rfl _ _ (B + 2) (B + 3) rfl rfl v yn Z0.out R0.out) rfl ⟨v, yn, false, rfl, (by rw [doC_ref HM.out HNV.out HRE.out (by decide), HYN.out, HYG.out]; rfl), Z0.out.1, Or.inl rfl, R0.out.1, PNS.out, BW.out⟩
  obtain ⟨yn, hyn⟩ : ∃ x : Rt, x = { yg with gen := v.gen + 1, left := q.lim } := ⟨_, rfl⟩
  rw [hv9, hy9, hb9, ← hyn]
  clear hv9 hy9 hb9
  have HYN := Hi hyn
  clear hyn
  have HGE := Hi hg
  clear hg HZ
  have hv0 := HVI.out.1.gen0
  have hre : refuseC v.ct true q.ct = 0 := by
   unfold refuseC
   rw [if_neg (fun h => by cases h.2.1), if_neg (fun h => h.1 HOP.out.symm), if_neg (fun h => h.1 HOP.out.symm), if_neg (fun h => by rcases h.1 with h | h <;> (rw [show q.ct.op = q.op from rfl, ← HOP.out] at h; omega)), if_neg (fun h => by have h2 : v.gen = 1099511627776 := h.2; have := HGE.out; omega)]
  have PNS : Hid (PN w8 w.heap.size yn.sec) := Hi (by rw [show yn.sec = nilB by rw [HYN.out, HYG.out]; rfl]; exact nilB_pn _ _)
  have YNK : Hid yn.Ok := Hi (by rw [HYN.out]; have := HGE.out; exact { YGK.out with gen0 := (by show 0 ≤ v.gen + 1; omega), gen1 := (by show v.gen + 1 < 18446744073709551616; omega), left0 := HQI.out.1.lim0, left1 := HQI.out.1.lim1 })
  have HRE := Hi hre
  have HFL := Hi (fr_left (v := v.ct) (q := q.ct) HRQ.out.symm (by rw [show q.ct.op = q.op from rfl, ← HOP.out]; decide) hv0 HGE.out)
  clear hre hv0
  go_wp2_with ((with_reducible refine so2 [1000+45] ?_ ?_); (focus rfl))
  refine at9 (by go_simp) fun K0 hK => st_v _ _ (B + 2) (frVt v q) rfl rfl rfl (frVt_ok HVI.out.1 HQI.out.1 HGE.out) Z0.out.2 (by rw [List.size_toArray, Vt.len Z0.out.1]) (fun w20 hd ho => hK _ _ ?_)
  clear hK
  replace R0 := Hi (ho.rb R0.out (by omega))
  replace PNS := Hi (PNS.out.onlyT ho Z0.out.2 (by decide))
  replace BW := Hi (ho.below w.heap.size (by rw [← HB.out]; omega) w BW.out)
  replace Z0 := Hi hd
  clear hd ho
  go_wp2_with ((with_reducible refine so2 [1000+45] ?_ ?_); (focus rfl))
  refine at9 (by go_simp) fun K0 hK => st_r _ _ (B + 3) yn rfl rfl rfl YNK.out R0.out.2 (by rw [List.size_toArray, Rt.len R0.out.1]) (fun w21 hd ho => hK _ _ ?_)
  clear hK
  replace Z0 := Hi (ho.vb Z0.out (by omega))
  replace PNS := Hi (PNS.out.onlyT ho R0.out.2 (by decide))
  replace BW := Hi (ho.below w.heap.size (by rw [← HB.out]; omega) w BW.out)
  replace R0 := Hi hd
  clear hd ho
  go_wp2_with fail
  exact bodyPost_ret (res_vr rfl _ _ (B + 2) (B + 3) rfl rfl (frVt v q) yn Z0.out R0.out) rfl ⟨(frVt v q), yn, true, rfl, (by rw [doC_act HM.out HNV.out HRE.out, HYN.out, HYG.out]; unfold actC; rw [if_neg (by rw [show q.ct.op = q.op from rfl, ← HOP.out]; decide), if_neg (by rw [show q.ct.op = q.op from rfl, ← HOP.out]; decide), HFL.out]; rfl), Z0.out.1, Or.inr (Or.inl rfl), R0.out.1, PNS.out, BW.out⟩
 ·have YGK : Hid yg.Ok := Hi Y0.out.1
  go_wp2_with ((with_reducible refine so2 [1000+45] ?_ ?_); (focus rfl))
  go_wp2_with ((with_reducible refine so2 [1000+45] ?_ ?_); (focus rfl))
  refine at9 (by go_simp) fun K0 hK => st_rwhy (by kernel_rfl) _ _ g8 yg 22 rfl rfl rfl (by decide) (by decide) Y0.out (fun w8 hd ho => hK _ _ ?_)
  clear hK
  have h8 := HG8.out
  replace A0 := Hi (ho.vb A0.out (by omega))
  replace Z0 := Hi (ho.vb Z0.out (by omega))
  replace R0 := Hi (ho.rb R0.out (by omega))
  replace BW := Hi (ho.below w.heap.size (by rw [← HB.out]; omega) w BW.out)
  obtain ⟨yn, hyn⟩ : ∃ x : Rt, x = { yg with why := 22 } := ⟨_, rfl⟩
  rw [← hyn] at hd
  have HYN := Hi hyn
  replace Y0 := Hi hd
  clear hd ho hyn q0 v40
  go_wp2_with fail
  have hsz : B ≤ w8.heap.size := Nat.le_of_lt A0.out.lt
  have HP : Hid (P5 B w8 B g8 (B + 2) (B + 3) v v yn false false w8.drew) := Hi (P5.start hsz A0.out Y0.out Z0.out R0.out)
  refine ret5 HP.out (by omega) (by omega) (by omega) (by omega) rfl (by kernel_rfl) (by kernel_rfl) (by kernel_rfl) (by kernel_rfl) (by simp) (by simp) rfl rfl rfl rfl ?_
  ·intro f wz f4 hz2 hz3 hk5
   simp only [putAll, Act.put, List.setIfInBounds_toArray, List.set_cons_zero, List.set_cons_succ, Nat.zero_add, Nat.reduceAdd]
   rw [f4]
   clear f4
   go_wp2_with fail
   have hre : refuseC v.ct true q.ct = 22 := by
    unfold refuseC
    rw [if_neg (fun h => by have := h.1; rw [show q.ct.op = q.op from rfl, ← HOP.out] at this; omega), if_pos ⟨by rw [show q.ct.op = q.op from rfl, ← HOP.out]; decide, rfl⟩]
   refine bodyPost_ret (res_vr rfl _ _ (B + 2) (B + 3) rfl rfl v yn hz2 hz3) rfl ⟨v, yn, false, rfl, ?_, hz2.1, Or.inl rfl, hz3.1, ?_, (show Ex w wz from Below.trans BW.out (by rw [← HB.out]; exact hk5.below))⟩
   ·rw [doC_ref HM.out HNV.out hre (by decide), HYN.out, HYG.out]; rfl
   rw [show yn.sec = nilB by rw [HYN.out, HYG.out]; rfl]; exact nilB_pn _ _
 ·have YGK : Hid yg.Ok := Hi Y0.out.1
  go_wp2_with ((with_reducible refine so2 [1000+45] ?_ ?_); (focus rfl))
  go_wp2_with ((with_reducible refine so2 [1000+45] ?_ ?_); (focus rfl))
  refine at9 (by go_simp) fun K0 hK => st_rwhy (by kernel_rfl) _ _ g8 yg 22 rfl rfl rfl (by decide) (by decide) Y0.out (fun w8 hd ho => hK _ _ ?_)
  clear hK
  have h8 := HG8.out
  replace A0 := Hi (ho.vb A0.out (by omega))
  replace Z0 := Hi (ho.vb Z0.out (by omega))
  replace R0 := Hi (ho.rb R0.out (by omega))
  replace BW := Hi (ho.below w.heap.size (by rw [← HB.out]; omega) w BW.out)
  obtain ⟨yn, hyn⟩ : ∃ x : Rt, x = { yg with why := 22 } := ⟨_, rfl⟩
  rw [← hyn] at hd
  have HYN := Hi hyn
  replace Y0 := Hi hd
  clear hd ho hyn q0 v40
  go_wp2_with fail
  have hsz : B ≤ w8.heap.size := Nat.le_of_lt A0.out.lt
  have HP : Hid (P5 B w8 B g8 (B + 2) (B + 3) v v yn false false w8.drew) := Hi (P5.start hsz A0.out Y0.out Z0.out R0.out)
  refine ret5 HP.out (by omega) (by omega) (by omega) (by omega) rfl (by kernel_rfl) (by kernel_rfl) (by kernel_rfl) (by kernel_rfl) (by simp) (by simp) rfl rfl rfl rfl ?_
  ·intro f wz f4 hz2 hz3 hk5
   simp only [putAll, Act.put, List.setIfInBounds_toArray, List.set_cons_zero, List.set_cons_succ, Nat.zero_add, Nat.reduceAdd]
   rw [f4]
   clear f4
   go_wp2_with fail
   have hre : refuseC v.ct true q.ct = 22 := by
    unfold refuseC
    rw [if_neg (fun h => by have := h.1; rw [show q.ct.op = q.op from rfl, ← HOP.out] at this; omega), if_pos ⟨by rw [show q.ct.op = q.op from rfl, ← HOP.out]; decide, rfl⟩]
   refine bodyPost_ret (res_vr rfl _ _ (B + 2) (B + 3) rfl rfl v yn hz2 hz3) rfl ⟨v, yn, false, rfl, ?_, hz2.1, Or.inl rfl, hz3.1, ?_, (show Ex w wz from Below.trans BW.out (by rw [← HB.out]; exact hk5.below))⟩
   ·rw [doC_ref HM.out HNV.out hre (by decide), HYN.out, HYG.out]; rfl
   rw [show yn.sec = nilB by rw [HYN.out, HYG.out]; rfl]; exact nilB_pn _ _
 have YGK : Hid yg.Ok := Hi Y0.out.1
 go_wp2_with ((with_reducible refine so2 [1000+45] ?_ ?_); (focus rfl))
 go_wp2_with ((with_reducible refine so2 [1000+45] ?_ ?_); (focus rfl))
 refine at9 (by go_simp) fun K0 hK => st_rwhy (by kernel_rfl) _ _ g8 yg 22 rfl rfl rfl (by decide) (by decide) Y0.out (fun w8 hd ho => hK _ _ ?_)
 clear hK
 have h8 := HG8.out
 replace A0 := Hi (ho.vb A0.out (by omega))
 replace Z0 := Hi (ho.vb Z0.out (by omega))
 replace R0 := Hi (ho.rb R0.out (by omega))
 replace BW := Hi (ho.below w.heap.size (by rw [← HB.out]; omega) w BW.out)
 obtain ⟨yn, hyn⟩ : ∃ x : Rt, x = { yg with why := 22 } := ⟨_, rfl⟩
 rw [← hyn] at hd
 have HYN := Hi hyn
 replace Y0 := Hi hd
 clear hd ho hyn q0 v40
 go_wp2_with fail
 have hsz : B ≤ w8.heap.size := Nat.le_of_lt A0.out.lt
 have HP : Hid (P5 B w8 B g8 (B + 2) (B + 3) v v yn false false w8.drew) := Hi (P5.start hsz A0.out Y0.out Z0.out R0.out)
 refine ret5 HP.out (by omega) (by omega) (by omega) (by omega) rfl (by kernel_rfl) (by kernel_rfl) (by kernel_rfl) (by kernel_rfl) (by simp) (by simp) rfl rfl rfl rfl ?_
 ·intro f wz f4 hz2 hz3 hk5
  simp only [putAll, Act.put, List.setIfInBounds_toArray, List.set_cons_zero, List.set_cons_succ, Nat.zero_add, Nat.reduceAdd]
  rw [f4]
  clear f4
  go_wp2_with fail
  have hre : refuseC v.ct true q.ct = 22 := by
   unfold refuseC
   rw [if_neg (fun h => by have := h.1; rw [show q.ct.op = q.op from rfl, ← HOP.out] at this; omega), if_pos ⟨by rw [show q.ct.op = q.op from rfl, ← HOP.out]; decide, rfl⟩]
  refine bodyPost_ret (res_vr rfl _ _ (B + 2) (B + 3) rfl rfl v yn hz2 hz3) rfl ⟨v, yn, false, rfl, ?_, hz2.1, Or.inl rfl, hz3.1, ?_, (show Ex w wz from Below.trans BW.out (by rw [← HB.out]; exact hk5.below))⟩
  ·rw [doC_ref HM.out HNV.out hre (by decide), HYN.out, HYG.out]; rfl
  rw [show yn.sec = nilB by rw [HYN.out, HYG.out]; rfl]; exact nilB_pn _ _
end Go.Proofs.Ytmjfnpmnhehnkaa
