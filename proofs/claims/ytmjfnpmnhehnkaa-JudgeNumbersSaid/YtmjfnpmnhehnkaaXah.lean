/- Vi -/
import Derived.Test.YtmjfnpmnhehnkaaXag
namespace Go.Proofs.Ytmjfnpmnhehnkaa
open Go.RowKit
def zeroRt : Rt := ⟨0, z4, 0, 0, nilB, 0, 0⟩
theorem zeroRt_ok : zeroRt.Ok := ⟨by decide, by decide, rfl, by decide, by decide, by decide, by decide, by decide, by decide, by decide, by decide⟩
def repRt (e : Int) (id : List UInt8) (c n : Int) : Rt := ⟨e, id, 0, 0, nilB, c, n⟩
theorem repRt_ok {e : Int} {id : List UInt8} {c n : Int} (e0 : -9223372036854775808 ≤ e) (e1 : e ≤ 9223372036854775807) (h : id.length = 4) (c0 : -9223372036854775808 ≤ c) (c1 : c ≤ 9223372036854775807) (n0 : 0 ≤ n) (n1 : n < 18446744073709551616) : (repRt e id c n).Ok :=
 ⟨e0, e1, h, (by show (0 : Int) ≤ 0; decide), (by show (0 : Int) < 18446744073709551616; decide), (by show (-9223372036854775808 : Int) ≤ 0; decide), (by show (0 : Int) ≤ 9223372036854775807; decide), c0, c1, n0, n1⟩
theorem built_err : Try.prog.built 83 [(0, .int .i64 12)] = some (repRt 12 z4 0 0).C.toArray := by kernel_rfl
theorem built_rep (id : List UInt8) (c n : Int) (h : id.length = 4) : Try.prog.built 83 [(1, digV id), (5, .int .i64 c), (6, .int .u64 n)] = some (repRt 0 id c n).C.toArray := by
 obtain ⟨a, b, c, d, rfl⟩ := len4 h
 kernel_rfl
theorem res_vr {fn : Func} {a b c : Tmp} (h : fn.results = #[.cell a 36, .cell b 83, .tmp c]) (tmps : Array Value) (w : World) (g k : Nat) (ha : tmps.getD a undef = .pointer (some ⟨g, 0, none⟩)) (hb : tmps.getD b undef = .pointer (some ⟨k, 0, none⟩)) (x : Vt) (y : Rt) (hx : VB w g x) (hy : RB w k y) :
  (results fn tmps).run Try.prog w = .ok (.tuple #[x.V, y.V, tmps.getD c undef]) w := by
 obtain ⟨dd, hd⟩ : ∃ d, Try.prog.underlying 36 = some d ∧ d.isRow = true := ⟨_, Try.underlying36, rfl⟩
 obtain ⟨de, he⟩ : ∃ d, Try.prog.underlying 83 = some d ∧ d.isRow = true := ⟨_, Try.underlying83, rfl⟩
 have ha' : tmps[a]?.getD undef = .pointer (some ⟨g, 0, none⟩) := by simpa using ha
 have hb' : tmps[b]?.getD undef = .pointer (some ⟨k, 0, none⟩) := by simpa using hb
 simp [results, h, ha', hb', asAddr, run_loadVar_mid w g 0 _ x.C dd hx.2.range hd.1 hd.2 (by rw [Try.sizeVt, Vt.len hx.1]), run_loadVar_mid w k 0 _ y.C de hy.2.range he.1 he.2 (by rw [Try.sizeRt, Rt.len hy.1]), Sem.run_bind]
 exact ⟨rfl, rfl⟩
def errRc : Rc := (repRt 12 z4 0 0).ct
def doC (v : Vc) (q : Qc) : Vc × Rc × Bool :=
 if q.right = false ∨ (v ≠ zeroVc ∧ (v.right = false ∨ v.id ≠ q.id)) then (zeroVc, errRc, false)
 else if refuseC v (decide (v = zeroVc)) q = 0 then (match actC v q (repRt 0 q.id q.client q.num).ct with | (x, y, b) => (x, { y with gen := x.gen }, b))
 else (v, { (repRt (refuseC v (decide (v = zeroVc)) q) q.id q.client q.num).ct with gen := v.gen }, false)
def DPost (C : Vc × Rc × Bool) (w : World) (e : Ending) (w' : World) : Prop := ∃ (v' : Vt) (r' : Rt) (b : Bool), e = .returned (.tuple #[v'.V, r'.V, .bool b]) ∧ (v'.ct, r'.ct, b) = C ∧ VN w' w.heap.size v' ∧ r'.Ok ∧ PN w' w.heap.size r'.sec ∧ Ex w w'
theorem refuse_in (v : Vc) (b : Bool) (q : Qc) : 0 ≤ refuseC v b q ∧ refuseC v b q ≤ 31 := by
 unfold refuseC
 repeat' split
 all_goals omega
/-- what the last region of Do keeps -/
structure DI (B g8 g9 : Nat) (w0 : World) (v : Vt) (r : Rt) (l3 l4 : Bool) (w : World) : Prop where
 z : ∃ x, VB w (B + 2) x ∧ (l3 = true → x = v)
 y : ∃ x, RB w (B + 3) x ∧ (l4 = true → x = r)
 vb : VB w g9 v
 rb : RB w g8 r
 vs : PN w B v.sec
 rs : PN w B r.sec
 ex : Ex w0 w
 sz : w0.heap.size = B
 lt8 : B + 4 ≤ g8
 lt9 : B + 4 ≤ g9
theorem DI.st3 {B g8 g9 : Nat} {w0 : World} {v : Vt} {r : Rt} {l3 l4 : Bool} {w w' : World} (h : DI B g8 g9 w0 v r l3 l4 w) (hd : VB w' (B + 2) v) (ho : Only (B + 2) w w') : DI B g8 g9 w0 v r true l4 w' := by
 obtain ⟨⟨x, z1, z2⟩, ⟨y, y1, y2⟩, h3, h4, h5, h6, h7, h8, h9, h10⟩ := h
 exact ⟨⟨v, hd, fun _ => rfl⟩, ⟨y, ho.rb y1 (by omega), y2⟩, ho.vb h3 (by omega), ho.rb h4 (by omega), h5.onlyT ho z1.2 (by decide), h6.onlyT ho z1.2 (by decide), ho.below _ (by omega) _ h7, h8, h9, h10⟩
theorem DI.st4 {B g8 g9 : Nat} {w0 : World} {v : Vt} {r : Rt} {l3 l4 : Bool} {w w' : World} (h : DI B g8 g9 w0 v r l3 l4 w) (hd : RB w' (B + 3) r) (ho : Only (B + 3) w w') : DI B g8 g9 w0 v r l3 true w' := by
 obtain ⟨⟨x, z1, z2⟩, ⟨y, y1, y2⟩, h3, h4, h5, h6, h7, h8, h9, h10⟩ := h
 exact ⟨⟨x, ho.vb z1 (by omega), z2⟩, ⟨r, hd, fun _ => rfl⟩, ho.vb h3 (by omega), ho.rb h4 (by omega), h5.onlyT ho y1.2 (by decide), h6.onlyT ho y1.2 (by decide), ho.below _ (by omega) _ h7, h8, h9, h10⟩
theorem Qc.right_op {q : Qc} (h : q.right = true) : (q.op = 1 ∨ q.op = 2 ∨ q.op = 3 ∨ q.op = 4) ∧ q.sec.length ≤ 64 := by
 unfold Qc.right at h
 rw [Bool.and_eq_true] at h
 obtain ⟨_, h⟩ := h
 split at h
 ·rename_i h1
  simp only [Bool.and_eq_true, decide_eq_true_eq] at h
  exact ⟨by omega, h.2⟩
 split at h
 ·rename_i h1
  simp only [Bool.and_eq_true, decide_eq_true_eq] at h
  exact ⟨by omega, by rw [h.2]; simp⟩
 split at h
 ·rename_i h1
  simp only [Bool.and_eq_true, decide_eq_true_eq] at h
  exact ⟨by omega, by rw [h.2]; simp⟩
 cases h
theorem Vc.right_sec {v : Vc} (h : v.right = true) : v.sec.length ≤ 64 ∧ v.gen ≤ 1099511627776 ∧ (v.gone = false → 0 ≤ v.used ∧ v.used < v.lim ∧ v.lim ≤ 32) := by
 unfold Vc.right at h
 rw [Bool.and_eq_true, decide_eq_true_eq] at h
 obtain ⟨h0, h⟩ := h
 split at h
 ·rename_i hg
  rw [decide_eq_true_eq] at h
  rw [h]
  exact ⟨by show 0 ≤ 64; omega, h0.2, fun e => by cases e⟩
 simp only [Bool.and_eq_true, decide_eq_true_eq] at h
 exact ⟨h.2, h0.2, fun _ => ⟨h.1.1.2, h.1.2, h.1.1.1.2.2⟩⟩
theorem refuse_ok {v : Vc} {q : Qc} {n : Bool} (h : refuseC v n q = 0) (ho : q.op = 2) : n = false ∧ v.gone = false := by
 unfold refuseC at h
 rw [if_neg (by omega)] at h
 split at h
 ·omega
 rename_i h1
 split at h
 ·omega
 rename_i h2
 refine ⟨?_, ?_⟩
 ·cases n
  ·rfl
  exact absurd ⟨by omega, rfl⟩ h1
 cases hg : v.gone
 ·rfl
 exact absurd ⟨by omega, hg⟩ h2
set_option maxHeartbeats 16000000 in
set_option maxRecDepth 100000 in
theorem do_any (v : Vt) (q : Qt) (w : World) (hv : VI w v) (hq : QI w q) :
  Calls Try.prog 78 #[v.V, q.V] w (DPost (doC v.ct q.ct) w) := by
 have C1 := Hi (fun w1 (k : Ex w w1) => vsame_any v zeroVt w1 (hv.ext k) (zeroVt_in _))
 have C2 := Hi (fun w1 (k : Ex w w1) => qright_any q w1 (hq.ext k))
 have C3 := Hi (fun w1 (k : Ex w w1) => vright_any v w1 (hv.ext k))
 have C4 := Hi (fun (hL : v.sec.l.length ≤ 64) w1 (k : Ex w w1) => ownv_any v (by omega) w1 (hv.ext k))
 have C5 := Hi (fun (n : Bool) (u : Vt) (hu : u.Ok) ho w1 => refusal_any u n q w1 hu hq.1 ho)
 have C6 := Hi (fun (u : Vt) g r w1 (h1 : VN w1 (g + 1) u) (k : Ex w w1) (h2 : RB w1 g r) h3 h4 h5 h6 h7 h8 => act_any u q g r w1 h1 (hq.ext k) h2 h3 h4 h5 h6 h7 h8)
 have HVI := Hi hv
 have HOK := Hi hv.1
 have HQK := Hi hq.1
 obtain ⟨Z, hZ⟩ : ∃ Z, Z = doC v.ct q.ct := ⟨_, rfl⟩
 rw [← hZ]
 have HZ := Hi hZ
 unfold doC at HZ
 clear hZ
 obtain ⟨rq, hrq⟩ : ∃ b, b = q.ct.right := ⟨_, rfl⟩
 rw [← hrq] at C2 HZ
 have HRQ := Hi hrq
 clear hrq
 obtain ⟨rv, hrv⟩ : ∃ b, b = v.ct.right := ⟨_, rfl⟩
 rw [← hrv] at C3 HZ
 have HRV := Hi hrv
 clear hrv
 obtain ⟨nv, hnv⟩ : ∃ b, b = decide (v.ct = zeroVc) := ⟨_, rfl⟩
 have HNV := Hi hnv
 rw [show zeroVt.ct = zeroVc from rfl, ← hnv] at C1
 rw [← hnv] at HZ
 have hnz : (v.ct ≠ zeroVc) ↔ nv = false := by rw [hnv]; simp
 have HNZ := Hi hnz
 clear hnv hnz
 obtain ⟨cs, hcs⟩ : ∃ cs, cs = v.C.toArray := ⟨_, rfl⟩
 obtain ⟨ds, hds⟩ : ∃ cs, cs = q.C.toArray := ⟨_, rfl⟩
 have A0 : Hid (VB ((((w.alloc (.cells cs 36)).alloc (.cells ds 86)).alloc (.cells zeroVt.C.toArray 36)).alloc (.cells zeroRt.C.toArray 83)) w.heap.size v) := Hi ⟨hv.1, by rw [hcs]; exact (((Bk.new rfl _ _).more _).more _).more _⟩
 have Q0 : Hid (QB ((((w.alloc (.cells cs 36)).alloc (.cells ds 86)).alloc (.cells zeroVt.C.toArray 36)).alloc (.cells zeroRt.C.toArray 83)) (w.heap.size + 1) q) := Hi ⟨hq.1, by rw [hds]; exact ((Bk.new (by simp) _ _).more _).more _⟩
 have Z0 : Hid (VB ((((w.alloc (.cells cs 36)).alloc (.cells ds 86)).alloc (.cells zeroVt.C.toArray 36)).alloc (.cells zeroRt.C.toArray 83)) (w.heap.size + 2) zeroVt) := Hi ⟨zeroVt_ok, (Bk.new (by simp) _ _).more _⟩
 have Y0 : Hid (RB ((((w.alloc (.cells cs 36)).alloc (.cells ds 86)).alloc (.cells zeroVt.C.toArray 36)).alloc (.cells zeroRt.C.toArray 83)) (w.heap.size + 3) zeroRt) := Hi ⟨zeroRt_ok, Bk.new (by simp) _ _⟩
 have BW : Hid (Ex w ((((w.alloc (.cells cs 36)).alloc (.cells ds 86)).alloc (.cells zeroVt.C.toArray 36)).alloc (.cells zeroRt.C.toArray 83))) := Hi (Ex.trans (Ex.alloc w _) (Ex.trans (Ex.alloc _ _) (Ex.trans (Ex.alloc _ _) (Ex.alloc _ _))))
 rw [show (Calls Try.prog 78 #[v.V, q.V] w) = (Calls Try.prog 78 #[.agg cs, .agg ds] w) by rw [hcs, hds]; rfl]
 clear hcs hds hv hq
 go_enter Try.func78, Try.ntmps78
 go_wp2_with ((with_reducible refine so2 [1000+24, 1000+45, 2000+45] ?_ ?_); (focus rfl))
 (with_reducible refine ⟨?_⟩)
 change wpList _ _ _ _ _ ((((w.alloc (.cells cs 36)).alloc (.cells ds 86)).alloc (.cells zeroVt.C.toArray 36)).alloc (.cells zeroRt.C.toArray 83))
 generalize hw1 : ((((w.alloc (.cells cs 36)).alloc (.cells ds 86)).alloc (.cells zeroVt.C.toArray 36)).alloc (.cells zeroRt.C.toArray 83)) = w1 at *
 clear hw1
 obtain ⟨B, hB⟩ : ∃ B, B = w.heap.size := ⟨_, rfl⟩
 rw [← hB] at A0 Q0 Z0 Y0 ⊢
 have HB := Hi hB
 clear hB
 go_wp2_with ((with_reducible refine so2 [1000+24, 1000+45, 2000+45] ?_ ?_); (focus rfl))
 refine at9 (by go_simp) fun K0 hK => ld_v _ _ v rfl rfl A0.out (hK _ _ ?_)
 clear hK
 go_wp2_with ((with_reducible refine so2 [1000+24, 1000+45, 2000+45] ?_ ?_); (focus rfl))
 refine at9 (by go_simp) fun K0 hK => wp_build _ _ rfl _ built_zero (hK _ _ ?_)
 clear hK
 go_wp2_with ((with_reducible refine so2 [1000+24, 1000+45, 2000+45] ?_ ?_); (focus rfl))
 refine (C1.out _ BW.out).mono ?_
 rintro e w2 ⟨rfl, x2⟩
 clear C1
 replace A0 := Hi (A0.out.ext x2)
 replace Q0 := Hi (Q0.out.ext x2)
 replace Z0 := Hi (Z0.out.ext x2)
 replace Y0 := Hi (Y0.out.ext x2)
 replace BW := Hi (Ex.trans BW.out x2)
 clear x2
 go_wp2_with ((with_reducible refine so2 [1000+24, 1000+45, 2000+45] ?_ ?_); (focus rfl))
 refine at9 (by go_simp) fun K0 hK => ld_q _ _ q rfl rfl Q0.out (hK _ _ ?_)
 clear hK
 go_wp2_with ((with_reducible refine so2 [1000+24, 1000+45, 2000+45] ?_ ?_); (focus rfl))
 refine (C2.out _ BW.out).mono ?_
 rintro e w3 ⟨rfl, x3⟩
 clear C2
 replace A0 := Hi (A0.out.ext x3)
 replace Q0 := Hi (Q0.out.ext x3)
 replace Z0 := Hi (Z0.out.ext x3)
 replace Y0 := Hi (Y0.out.ext x3)
 replace BW := Hi (Ex.trans BW.out x3)
 clear x3
 cases rq
 case false =>
  replace HZ : Hid (Z = (zeroVc, errRc, false)) := Hi (by rw [HZ.out, if_pos (Or.inl rfl)])
  go_wp2_with ((with_reducible refine so2 [1000+24, 1000+45, 2000+45] ?_ ?_); (focus rfl))
  refine at9 (by go_simp) fun K0 hK => wp_build _ _ rfl _ built_zero (hK _ _ ?_)
  clear hK
  go_wp2_with ((with_reducible refine so2 [1000+24, 1000+45, 2000+45] ?_ ?_); (focus rfl))
  refine at9 (by go_simp) fun K0 hK => wp_build _ _ rfl _ built_err (hK _ _ ?_)
  clear hK
  go_wp2_with ((with_reducible refine so2 [1000+24, 1000+45, 2000+45] ?_ ?_); (focus rfl))
  refine at9 (by go_simp) fun K0 hK => st_v _ _ (B + 2) zeroVt rfl rfl rfl zeroVt_ok Z0.out.2 (by rw [List.size_toArray, Vt.len Z0.out.1]) (fun w5 hd ho => hK _ _ ?_)
  clear hK
  replace Y0 := Hi (ho.rb Y0.out (by omega))
  replace BW := Hi (ho.below w.heap.size (by rw [← HB.out]; omega) w BW.out)
  replace Z0 := Hi hd
  clear hd ho
  go_wp2_with ((with_reducible refine so2 [1000+24, 1000+45, 2000+45] ?_ ?_); (focus rfl))
  refine at9 (by go_simp) fun K0 hK => st_r _ _ (B + 3) (repRt 12 z4 0 0) rfl rfl rfl (repRt_ok (by decide) (by decide) rfl (by decide) (by decide) (by decide) (by decide)) Y0.out.2 (by rw [List.size_toArray, Rt.len Y0.out.1]) (fun w6 hd ho => hK _ _ ?_)
  clear hK
  replace Z0 := Hi (ho.vb Z0.out (by omega))
  replace BW := Hi (ho.below w.heap.size (by rw [← HB.out]; omega) w BW.out)
  replace Y0 := Hi hd
  clear hd ho
  go_wp2_with fail
  refine bodyPost_ret (res_vr rfl _ _ (B + 2) (B + 3) rfl rfl zeroVt (repRt 12 z4 0 0) Z0.out Y0.out) rfl ⟨zeroVt, repRt 12 z4 0 0, false, rfl, ?_, ⟨zeroVt_ok, nilB_pn _ _⟩, Y0.out.1, nilB_pn _ _, BW.out⟩
  rw [HZ.out]; rfl
 have HQO := Qc.right_op HRQ.out.symm
 have HOP := Hi HQO.1
 have HQS := Hi HQO.2
 clear HQO
 cases nv
 case true =>
  have HVZ : v.ct = zeroVc := by have h := HNV.out.symm; exact of_decide_eq_true h
  have HSEC : Hid (v.sec.l.length ≤ 64 ∧ v.gen ≤ 1099511627776) := Hi ⟨by have e := congrArg (fun c => c.sec.length) HVZ; have e : v.sec.l.length = 0 := e; omega, by have e := congrArg (fun c => c.gen) HVZ; have e : v.gen = 0 := e; omega⟩
  clear HVZ
  rw [if_neg (show ¬ (true = false ∨ (v.ct ≠ zeroVc ∧ (rv = false ∨ v.ct.id ≠ q.ct.id))) from fun h => by rcases h with h | ⟨h, _⟩; cases h; exact absurd (HNZ.out.1 h) (by decide))] at HZ
  go_wp2_with ((with_reducible refine so2 [1000+24, 1000+45, 2000+45] ?_ ?_); (focus rfl))
  (first | ((with_reducible refine at8 ?_ ?_); (focus (go_simp; done)); go_wp2_with ((with_reducible refine so2 [1000+24, 1000+45, 2000+45] ?_ ?_); (focus rfl))) | skip)
  refine at9 (by go_simp) fun K0 hK => ld_qid _ _ q rfl rfl Q0.out (hK _ _ ?_)
  clear hK
  obtain ⟨q0, q21, q22, q55, q56⟩ := Q0.out.cells
  go_wp2_with ((with_reducible refine so2 [1000+24, 1000+45, 2000+45] ?_ ?_); (focus rfl))
  refine at9 (by go_simp) fun K0 hK => wp_build _ _ rfl _ (built_rep q.id q.client q.num HQK.out.idN) (hK _ _ ?_)
  clear hK
  go_wp2_with ((with_reducible refine so2 [1000+24, 1000+45, 2000+45] ?_ ?_); (focus rfl))
  refine at9 (by go_simp) fun K0 hK => st_r _ _ w3.heap.size (repRt 0 q.id q.client q.num) rfl rfl rfl (repRt_ok (by decide) (by decide) HQK.out.idN HQK.out.client0 HQK.out.client1 HQK.out.num0 HQK.out.num1) (Bk.new rfl _ _) (by rfl) (fun w5 hd ho => hK _ _ ?_)
  clear hK
  have x5 : Ex w3 w5 := ho.below w3.heap.size (Nat.le_refl _) w3 (Ex.alloc w3 _)
  have h8 : B + 4 ≤ w3.heap.size := Y0.out.lt
  replace A0 := Hi (A0.out.ext x5)
  replace Q0 := Hi (Q0.out.ext x5)
  replace Z0 := Hi (Z0.out.ext x5)
  replace Y0 := Hi (Y0.out.ext x5)
  replace BW := Hi (Ex.trans BW.out x5)
  clear x5
  generalize w3.heap.size = g8 at hd h8 ⊢
  have R0 := Hi hd
  have HG8 := Hi h8
  clear hd ho h8 q0 q21 q22 q55 q56
  go_wp2_with ((with_reducible refine so2 [1000+24, 1000+45, 2000+45] ?_ ?_); (focus rfl))
  refine at9 (by go_simp) fun K0 hK => ld_v _ _ v rfl rfl A0.out (hK _ _ ?_)
  clear hK
  go_wp2_with ((with_reducible refine so2 [1000+24, 1000+45, 2000+45] ?_ ?_); (focus rfl))
  refine (C4.out HSEC.out.1 _ BW.out).mono ?_
  rintro e w6 ⟨p, rfl, hpl, hpi, x6⟩
  have NS := Hi (hpi.less (show g8 + 1 ≤ w5.heap.size from R0.out.lt))
  have HPL := Hi hpl
  clear C4 hpl hpi
  replace A0 := Hi (A0.out.ext x6)
  replace Q0 := Hi (Q0.out.ext x6)
  replace Z0 := Hi (Z0.out.ext x6)
  replace Y0 := Hi (Y0.out.ext x6)
  replace R0 := Hi (R0.out.ext x6)
  replace BW := Hi (Ex.trans BW.out x6)
  clear x6
  obtain ⟨NV, hNV⟩ : ∃ NV : Vt, NV = { v with sec := p } := ⟨_, rfl⟩
  rw [← hNV]
  have NCT : Hid (NV.ct = v.ct) := Hi (by rw [hNV]; unfold Vt.ct; simp only [HPL.out])
  have NOK : Hid NV.Ok := Hi (by rw [hNV]; exact ⟨HOK.out.idN, HOK.out.gen0, HOK.out.gen1, HOK.out.pinN, HOK.out.lim0, HOK.out.lim1, HOK.out.used0, HOK.out.used1, HOK.out.ownN⟩)
  replace NS : Hid (PN w6 (g8 + 1) NV.sec) := Hi (by rw [hNV]; exact NS.out)
  clear hNV HPL
  go_wp2_with ((with_reducible refine so2 [1000+24, 1000+45, 2000+45] ?_ ?_); (focus rfl))
  refine at9 (by go_simp) fun K0 hK => st_v _ _ w6.heap.size NV rfl rfl rfl NOK.out (Bk.new rfl _ _) (by rfl) (fun w7 hd ho => hK _ _ ?_)
  clear hK
  have x7 : Ex w6 w7 := ho.below w6.heap.size (Nat.le_refl _) w6 (Ex.alloc w6 _)
  have h9 : g8 < w6.heap.size := R0.out.lt
  replace A0 := Hi (A0.out.ext x7)
  replace Q0 := Hi (Q0.out.ext x7)
  replace Z0 := Hi (Z0.out.ext x7)
  replace Y0 := Hi (Y0.out.ext x7)
  replace R0 := Hi (R0.out.ext x7)
  replace NS := Hi (NS.out.ext x7)
  replace BW := Hi (Ex.trans BW.out x7)
  clear x7
  generalize w6.heap.size = g9 at hd h9 ⊢
  have N0 := Hi hd
  have HG9 := Hi h9
  clear hd ho h9
  go_wp2_with ((with_reducible refine so2 [1000+24, 1000+45, 2000+45] ?_ ?_); (focus rfl))
  refine at9 (by go_simp) fun K0 hK => ld_v _ _ v rfl rfl A0.out (hK _ _ ?_)
  clear hK
  go_wp2_with ((with_reducible refine so2 [1000+24, 1000+45, 2000+45] ?_ ?_); (focus rfl))
  refine at9 (by go_simp) fun K0 hK => ld_q _ _ q rfl rfl Q0.out (hK _ _ ?_)
  clear hK
  go_wp2_with ((with_reducible refine so2 [1000+24, 1000+45, 2000+45] ?_ ?_); (focus rfl))
  refine (C5.out _ v HOK.out HOP.out _).mono ?_
  rintro e w10 ⟨rfl, x10⟩
  clear C5
  replace A0 := Hi (A0.out.ext x10)
  replace Q0 := Hi (Q0.out.ext x10)
  replace Z0 := Hi (Z0.out.ext x10)
  replace Y0 := Hi (Y0.out.ext x10)
  replace R0 := Hi (R0.out.ext x10)
  replace NS := Hi (NS.out.ext x10)
  replace N0 := Hi (N0.out.ext x10)
  replace BW := Hi (Ex.trans BW.out x10)
  clear x10
  obtain ⟨er, her⟩ : ∃ e, e = refuseC v.ct true q.ct := ⟨_, rfl⟩
  rw [← her]
  have HER := Hi her
  have he0 := refuse_in v.ct true q.ct
  rw [← her] at he0
  rw [← her] at HZ
  clear her
  go_wp2_with ((with_reducible refine so2 [1000+24, 1000+45, 2000+45] ?_ ?_); (focus rfl))
  refine at9 (by go_simp) fun K0 hK => st_rwhy (by kernel_rfl) _ _ g8 (repRt 0 q.id q.client q.num) er rfl rfl rfl (by omega) (by omega) R0.out (fun w11 hd ho => hK _ _ ?_)
  clear hK
  have h8 := HG8.out
  have h9 := HG9.out
  replace A0 := Hi (ho.vb A0.out (by omega))
  replace Q0 := Hi (ho.qb Q0.out (by omega))
  replace Z0 := Hi (ho.vb Z0.out (by omega))
  replace Y0 := Hi (ho.rb Y0.out (by omega))
  replace N0 := Hi (ho.vb N0.out (by omega))
  replace NS := Hi (NS.out.only ho (by omega))
  replace BW := Hi (ho.below w.heap.size (by rw [← HB.out]; omega) w BW.out)
  replace R0 := Hi (show RB w11 g8 (repRt er q.id q.client q.num) from hd)
  clear hd ho h8 h9 he0
  obtain ⟨r0, r5, r6, r7, r8, r9⟩ := R0.out.cells
  go_wp2_with ((with_reducible refine so2 [1000+24, 1000+45, 2000+45] ?_ ?_); (focus rfl))
  refine at9 (by go_simp) fun K0 hK => wp_eql_err _ _ _ rfl er 0 rfl rfl (hK _ _ ?_)
  clear hK
  clear r0 r5 r6 r7 r8 r9
  by_cases he : er = 0
  case pos =>
   rw [decide_eq_true he]
   rw [if_pos he] at HZ
   have HE := Hi he
   rw [he] at R0
   clear he
   go_wp2_with ((with_reducible refine so2 [1000+24, 1000+45, 2000+45] ?_ ?_); (focus rfl))
   refine at9 (by go_simp) fun K0 hK => ld_v _ _ NV rfl rfl N0.out (hK _ _ ?_)
   clear hK
   go_wp2_with ((with_reducible refine so2 [1000+24, 1000+45, 2000+45] ?_ ?_); (focus rfl))
   refine at9 (by go_simp) fun K0 hK => ld_q _ _ q rfl rfl Q0.out (hK _ _ ?_)
   clear hK
   go_wp2_with ((with_reducible refine so2 [1000+24, 1000+45, 2000+45] ?_ ?_); (focus rfl))
   refine (C6.out NV g8 (repRt 0 q.id q.client q.num) _ ⟨NOK.out, NS.out⟩ BW.out R0.out rfl (by have e := congrArg (fun c => c.sec.length) NCT.out; have e2 := HSEC.out.1; exact Nat.le_trans (Nat.le_of_eq e) e2) HQS.out HOP.out (fun h2 => by
    have h3 := refuse_ok (HER.out.symm.trans HE.out) h2
    have h4 := (show 0 ≤ v.used ∧ v.used < v.lim ∧ v.lim ≤ 32 from by cases h3.1)
    have e1 := congrArg (fun c => c.used) NCT.out
    have e2 := congrArg (fun c => c.lim) NCT.out
    have e1 : NV.used = v.used := e1
    have e2 : NV.lim = v.lim := e2
    rw [e1, e2]; exact h4) (by have e := congrArg (fun c => c.gen) NCT.out; have e : NV.gen = v.gen := e; rw [e]; exact HSEC.out.2)).mono ?_
   rintro e w12 ⟨v', r', b, rfl, hz, hr4, hv4, hp4, m4⟩
   have h8 := HG8.out
   have h9 := HG9.out
   have HZ4 := Hi hz
   replace A0 := Hi (m4.vb A0.out (by omega))
   replace Q0 := Hi (m4.qb Q0.out (by omega))
   replace Z0 := Hi (m4.vb Z0.out (by omega))
   replace Y0 := Hi (m4.rb Y0.out (by omega))
   replace N0 := Hi (m4.vb N0.out (by omega))
   replace BW := Hi (m4.below w.heap.size (by rw [← HB.out]; omega) w BW.out)
   replace R0 := Hi hr4
   have V4 := Hi hv4.1
   replace NS := Hi hv4.2
   have RS := Hi hp4
   clear hz hr4 hv4 hp4 m4 C6 h8 h9
   go_wp2_with ((with_reducible refine so2 [1000+24, 1000+45, 2000+45] ?_ ?_); (focus rfl))
   refine at9 (by go_simp) fun K0 hK => st_v _ _ g9 v' rfl rfl rfl V4.out N0.out.2 (by rw [List.size_toArray, Vt.len N0.out.1]) (fun w13 hd ho => hK _ _ ?_)
   clear hK
   have h8 := HG8.out
   have h9 := HG9.out
   replace A0 := Hi (ho.vb A0.out (by omega))
   replace Q0 := Hi (ho.qb Q0.out (by omega))
   replace Z0 := Hi (ho.vb Z0.out (by omega))
   replace Y0 := Hi (ho.rb Y0.out (by omega))
   replace R0 := Hi (ho.rb R0.out (by omega))
   replace NS := Hi (NS.out.onlyT ho N0.out.2 (by decide))
   replace RS := Hi (RS.out.onlyT ho N0.out.2 (by decide))
   replace BW := Hi (ho.below w.heap.size (by rw [← HB.out]; omega) w BW.out)
   replace N0 := Hi hd
   have NVB := Hi (And.intro hd.1.gen0 hd.1.gen1)
   clear hd ho h8 h9
   obtain ⟨e4, e21, e22, e23, e40, e41⟩ := N0.out.cells
   go_wp2_with ((with_reducible refine so2 [1000+24, 1000+45, 2000+45] ?_ ?_); (focus rfl))
   refine at9 (by go_simp) fun K0 hK => st_rgen (by kernel_rfl) _ _ g8 r' v'.gen rfl rfl rfl NVB.out.1 NVB.out.2 R0.out (fun w8 hd ho => hK _ _ ?_)
   clear hK
   have hg9 := HG9.out
   have hg8 := HG8.out
   replace N0 := Hi (ho.vb N0.out (by omega))
   replace Z0 := Hi (ho.vb Z0.out (by omega))
   replace Y0 := Hi (ho.rb Y0.out (by omega))
   replace NS := Hi (NS.out.only ho (by omega))
   replace RS := Hi (RS.out.only ho (by omega))
   replace BW := Hi (ho.below w.heap.size (by rw [← HB.out]; have := HG8.out; omega) w BW.out)
   replace R0 := Hi hd
   clear hd ho hg9 hg8 e4 e21 e22 e23 e40 e41
   go_wp2_with ((with_reducible refine so2 [1000+24, 1000+45, 2000+45] ?_ ?_); (focus rfl))
   obtain ⟨RV, hRV⟩ : ∃ x, x = { r' with gen := v'.gen } := ⟨_, rfl⟩
   have HRV9 := Hi hRV
   rw [← hRV] at R0
   replace RS := Hi (show PN w8 (g8 + 1) RV.sec by rw [hRV]; exact RS.out)
   clear hRV
   have D0 : Hid (DI B g8 g9 w v' RV false false w8) := Hi ⟨⟨_, Z0.out, fun h => by cases h⟩, ⟨_, Y0.out, fun h => by cases h⟩, N0.out, R0.out, NS.out.less (by have := HG8.out; omega), RS.out.less (by have := HG8.out; omega), BW.out, HB.out.symm, HG8.out, (by have := HG9.out; have := HG8.out; omega)⟩
   clear Z0 Y0 N0 R0 NS RS BW A0 Q0
   refine wp_region_val (fun i => [v'.V, RV.V, .bool b, undef, undef, .bool b].getD i undef) (fun l => DI B g8 g9 w v' RV (l.getD 3 false) (l.getD 4 false)) (by kernel_rfl) (by kernel_rfl) (by kernel_rfl) (fitB_spec (by kernel_rfl)) ?_ ?_ ?_
   ·intro l h0
    rw [h0, h0]
    exact ⟨D0.out.z.elim fun x h => ⟨x, h.1.ext (Below.refl _ _).drew, h.2⟩, D0.out.y.elim fun x h => ⟨x, h.1.ext (Below.refl _ _).drew, h.2⟩, D0.out.vb.ext (Below.refl _ _).drew, D0.out.rb.ext (Below.refl _ _).drew, D0.out.vs.ext (Below.refl _ _).drew, D0.out.rs.ext (Below.refl _ _).drew, D0.out.ex.drew, D0.out.sz, D0.out.lt8, D0.out.lt9⟩
   ·intro i o ho
    have hi : i < 6 := (Array.getElem?_eq_some_iff.1 ho).1
    have hi' : i = 0 ∨ i = 1 ∨ i = 2 ∨ i = 3 ∨ i = 4 ∨ i = 5 := by omega
    clear hi
    rcases hi' with rfl | rfl | rfl | rfl | rfl | rfl
    all_goals (simp only [List.getElem?_toArray, List.getElem?_cons_zero, List.getElem?_cons_succ, Option.some.injEq] at ho; subst ho; intro listed a w2 hI hsz hls hun hdep hout)
    ·rw [if_pos (by rfl)]
     intro K hK
     have q9 := hout 9 (outB_spec (by kernel_rfl))
     refine ld_v _ g9 v' rfl q9 hI.vb (hK _ ?_)
     show DI B g8 g9 w v' RV ((listed.setIfInBounds 0 true).getD 3 false) ((listed.setIfInBounds 0 true).getD 4 false) _; rw [bit_set (by decide), bit_set (by decide)]; exact hI
    ·rw [if_pos (by rfl)]
     intro K hK
     have q8 := hout 8 (outB_spec (by kernel_rfl))
     refine ld_r _ g8 RV rfl q8 hI.rb (hK _ ?_)
     show DI B g8 g9 w v' RV ((listed.setIfInBounds 1 true).getD 3 false) ((listed.setIfInBounds 1 true).getD 4 false) _; rw [bit_set (by decide), bit_set (by decide)]; exact hI
    ·rw [if_pos (by rfl)]
     intro K hK
     have q10 := hout 10 (outB_spec (by kernel_rfl))
     refine wp_mv _ rfl ?_
     rw [show a.eval (.tmp 10) = .bool b from q10]
     refine hK _ ?_
     show DI B g8 g9 w v' RV ((listed.setIfInBounds 2 true).getD 3 false) ((listed.setIfInBounds 2 true).getD 4 false) _; rw [bit_set (by decide), bit_set (by decide)]; exact hI
    ·rw [if_pos (by rfl)]
     intro K hK
     have q4 := hout 4 (outB_spec (by kernel_rfl))
     have q61 := (hdep ⟨0, .data⟩ (by simp) rfl).2 _ rfl _ rfl
     have q61 : a.tmps.getD 61 undef = v'.V := q61
     obtain ⟨x, hx, _⟩ := hI.z
     refine st_v _ _ (B + 2) v' rfl q4 q61 hI.vb.1 hx.2 (by rw [List.size_toArray, Vt.len hx.1]) (fun w9 hd ho => hK _ ?_)
     show DI B g8 g9 w v' RV ((listed.setIfInBounds 3 true).getD 3 false) ((listed.setIfInBounds 3 true).getD 4 false) _; rw [bit_new (by rw [hls]; decide), bit_set (by decide)]; exact hI.st3 hd ho
    ·rw [if_pos (by rfl)]
     intro K hK
     have q5 := hout 5 (outB_spec (by kernel_rfl))
     have q62 := (hdep ⟨1, .data⟩ (by simp) rfl).2 _ rfl _ rfl
     have q62 : a.tmps.getD 62 undef = RV.V := q62
     obtain ⟨x, hx, _⟩ := hI.y
     refine st_r _ _ (B + 3) RV rfl q5 q62 hI.rb.1 hx.2 (by rw [List.size_toArray, Rt.len hx.1]) (fun w9 hd ho => hK _ ?_)
     show DI B g8 g9 w v' RV ((listed.setIfInBounds 4 true).getD 3 false) ((listed.setIfInBounds 4 true).getD 4 false) _; rw [bit_set (by decide), bit_new (by rw [hls]; decide)]; exact hI.st4 hd ho
    rw [if_pos (by rfl)]
    intro K hK
    have q63 := (hdep ⟨2, .data⟩ (by simp) rfl).2 _ rfl _ rfl
    have q63 : a.tmps.getD 63 undef = .bool b := q63
    rw [Array.getD_eq_getD_getElem?] at q63
    clear hsz hdep hout hun
    go_simp
    refine hK _ ?_
    show DI B g8 g9 w v' RV ((listed.setIfInBounds 5 true).getD 3 false) ((listed.setIfInBounds 5 true).getD 4 false) _; rw [bit_set (by decide), bit_set (by decide)]; exact hI
   intro listed w2 hall hI
   rw [hall 3 (by simp), hall 4 (by simp)] at hI
   obtain ⟨z, hz, ez⟩ := hI.z
   obtain ⟨y, hy, ey⟩ := hI.y
   rw [ez rfl] at hz
   rw [ey rfl] at hy
   have hvs := hI.vs
   have hrs := hI.rs
   have hex := hI.ex
   clear hI hall ez ey D0
   simp only [putAll, Act.put, List.setIfInBounds_toArray, List.set_cons_zero, List.set_cons_succ, Nat.zero_add, Nat.reduceAdd]
   go_wp2_with fail
   refine bodyPost_ret (res_vr rfl _ _ (B + 2) (B + 3) rfl rfl v' RV hz hy) rfl ⟨v', RV, b, rfl, ?_, ⟨hz.1, by rw [← HB.out]; exact hvs⟩, hy.1, (by rw [← HB.out]; exact hrs), hex⟩
   rw [HZ.out]
   have e := HZ4.out
   rw [show NV.ct = v.ct from NCT.out] at e
   rw [show actC v.ct q.ct (repRt 0 q.ct.id q.ct.client q.ct.num).ct = actC v.ct q.ct (repRt 0 q.id q.client q.num).ct from rfl, ← e, HRV9.out]
   rfl
  rw [decide_eq_false he]
  rw [if_neg he] at HZ
  clear he C6
  have NVB := Hi (And.intro NOK.out.gen0 NOK.out.gen1)
  have RS : Hid (PN w11 (g8 + 1) (repRt er q.id q.client q.num).sec) := Hi (nilB_pn _ _)
  obtain ⟨e4, e21, e22, e23, e40, e41⟩ := N0.out.cells
  go_wp2_with ((with_reducible refine so2 [1000+24, 1000+45, 2000+45] ?_ ?_); (focus rfl))
  refine at9 (by go_simp) fun K0 hK => st_rgen (by kernel_rfl) _ _ g8 (repRt er q.id q.client q.num) NV.gen rfl rfl rfl NVB.out.1 NVB.out.2 R0.out (fun w8 hd ho => hK _ _ ?_)
  clear hK
  have hg9 := HG9.out
  have hg8 := HG8.out
  replace N0 := Hi (ho.vb N0.out (by omega))
  replace Z0 := Hi (ho.vb Z0.out (by omega))
  replace Y0 := Hi (ho.rb Y0.out (by omega))
  replace NS := Hi (NS.out.only ho (by omega))
  replace RS := Hi (RS.out.only ho (by omega))
  replace BW := Hi (ho.below w.heap.size (by rw [← HB.out]; have := HG8.out; omega) w BW.out)
  replace R0 := Hi hd
  clear hd ho hg9 hg8 e4 e21 e22 e23 e40 e41
  go_wp2_with ((with_reducible refine so2 [1000+24, 1000+45, 2000+45] ?_ ?_); (focus rfl))
  obtain ⟨RV, hRV⟩ : ∃ x, x = { (repRt er q.id q.client q.num) with gen := NV.gen } := ⟨_, rfl⟩
  have HRV9 := Hi hRV
  rw [← hRV] at R0
  replace RS := Hi (show PN w8 (g8 + 1) RV.sec by rw [hRV]; exact RS.out)
  clear hRV
  have D0 : Hid (DI B g8 g9 w NV RV false false w8) := Hi ⟨⟨_, Z0.out, fun h => by cases h⟩, ⟨_, Y0.out, fun h => by cases h⟩, N0.out, R0.out, NS.out.less (by have := HG8.out; omega), RS.out.less (by have := HG8.out; omega), BW.out, HB.out.symm, HG8.out, (by have := HG9.out; have := HG8.out; omega)⟩
  clear Z0 Y0 N0 R0 NS RS BW A0 Q0
  refine wp_region_val (fun i => [NV.V, RV.V, .bool false, undef, undef, .bool false].getD i undef) (fun l => DI B g8 g9 w NV RV (l.getD 3 false) (l.getD 4 false)) (by kernel_rfl) (by kernel_rfl) (by kernel_rfl) (fitB_spec (by kernel_rfl)) ?_ ?_ ?_
  ·intro l h0
   rw [h0, h0]
   exact ⟨D0.out.z.elim fun x h => ⟨x, h.1.ext (Below.refl _ _).drew, h.2⟩, D0.out.y.elim fun x h => ⟨x, h.1.ext (Below.refl _ _).drew, h.2⟩, D0.out.vb.ext (Below.refl _ _).drew, D0.out.rb.ext (Below.refl _ _).drew, D0.out.vs.ext (Below.refl _ _).drew, D0.out.rs.ext (Below.refl _ _).drew, D0.out.ex.drew, D0.out.sz, D0.out.lt8, D0.out.lt9⟩
  ·intro i o ho
   have hi : i < 6 := (Array.getElem?_eq_some_iff.1 ho).1
   have hi' : i = 0 ∨ i = 1 ∨ i = 2 ∨ i = 3 ∨ i = 4 ∨ i = 5 := by omega
   clear hi
   rcases hi' with rfl | rfl | rfl | rfl | rfl | rfl
   all_goals (simp only [List.getElem?_toArray, List.getElem?_cons_zero, List.getElem?_cons_succ, Option.some.injEq] at ho; subst ho; intro listed a w2 hI hsz hls hun hdep hout)
   ·rw [if_pos (by rfl)]
    intro K hK
    have q9 := hout 9 (outB_spec (by kernel_rfl))
    refine ld_v _ g9 NV rfl q9 hI.vb (hK _ ?_)
    show DI B g8 g9 w NV RV ((listed.setIfInBounds 0 true).getD 3 false) ((listed.setIfInBounds 0 true).getD 4 false) _; rw [bit_set (by decide), bit_set (by decide)]; exact hI
   ·rw [if_pos (by rfl)]
    intro K hK
    have q8 := hout 8 (outB_spec (by kernel_rfl))
    refine ld_r _ g8 RV rfl q8 hI.rb (hK _ ?_)
    show DI B g8 g9 w NV RV ((listed.setIfInBounds 1 true).getD 3 false) ((listed.setIfInBounds 1 true).getD 4 false) _; rw [bit_set (by decide), bit_set (by decide)]; exact hI
   ·rw [if_pos (by rfl)]
    intro K hK
    have q10 := hout 10 (outB_spec (by kernel_rfl))
    refine wp_mv _ rfl ?_
    rw [show a.eval (.tmp 10) = .bool false from q10]
    refine hK _ ?_
    show DI B g8 g9 w NV RV ((listed.setIfInBounds 2 true).getD 3 false) ((listed.setIfInBounds 2 true).getD 4 false) _; rw [bit_set (by decide), bit_set (by decide)]; exact hI
   ·rw [if_pos (by rfl)]
    intro K hK
    have q4 := hout 4 (outB_spec (by kernel_rfl))
    have q61 := (hdep ⟨0, .data⟩ (by simp) rfl).2 _ rfl _ rfl
    have q61 : a.tmps.getD 61 undef = NV.V := q61
    obtain ⟨x, hx, _⟩ := hI.z
    refine st_v _ _ (B + 2) NV rfl q4 q61 hI.vb.1 hx.2 (by rw [List.size_toArray, Vt.len hx.1]) (fun w9 hd ho => hK _ ?_)
    show DI B g8 g9 w NV RV ((listed.setIfInBounds 3 true).getD 3 false) ((listed.setIfInBounds 3 true).getD 4 false) _; rw [bit_new (by rw [hls]; decide), bit_set (by decide)]; exact hI.st3 hd ho
   ·rw [if_pos (by rfl)]
    intro K hK
    have q5 := hout 5 (outB_spec (by kernel_rfl))
    have q62 := (hdep ⟨1, .data⟩ (by simp) rfl).2 _ rfl _ rfl
    have q62 : a.tmps.getD 62 undef = RV.V := q62
    obtain ⟨x, hx, _⟩ := hI.y
    refine st_r _ _ (B + 3) RV rfl q5 q62 hI.rb.1 hx.2 (by rw [List.size_toArray, Rt.len hx.1]) (fun w9 hd ho => hK _ ?_)
    show DI B g8 g9 w NV RV ((listed.setIfInBounds 4 true).getD 3 false) ((listed.setIfInBounds 4 true).getD 4 false) _; rw [bit_set (by decide), bit_new (by rw [hls]; decide)]; exact hI.st4 hd ho
   rw [if_pos (by rfl)]
   intro K hK
   have q63 := (hdep ⟨2, .data⟩ (by simp) rfl).2 _ rfl _ rfl
   have q63 : a.tmps.getD 63 undef = .bool false := q63
   rw [Array.getD_eq_getD_getElem?] at q63
   clear hsz hdep hout hun
   go_simp
   refine hK _ ?_
   show DI B g8 g9 w NV RV ((listed.setIfInBounds 5 true).getD 3 false) ((listed.setIfInBounds 5 true).getD 4 false) _; rw [bit_set (by decide), bit_set (by decide)]; exact hI
  intro listed w2 hall hI
  rw [hall 3 (by simp), hall 4 (by simp)] at hI
  obtain ⟨z, hz, ez⟩ := hI.z
  obtain ⟨y, hy, ey⟩ := hI.y
  rw [ez rfl] at hz
  rw [ey rfl] at hy
  have hvs := hI.vs
  have hrs := hI.rs
  have hex := hI.ex
  clear hI hall ez ey D0
  simp only [putAll, Act.put, List.setIfInBounds_toArray, List.set_cons_zero, List.set_cons_succ, Nat.zero_add, Nat.reduceAdd]
  go_wp2_with fail
  refine bodyPost_ret (res_vr rfl _ _ (B + 2) (B + 3) rfl rfl NV RV hz hy) rfl ⟨NV, RV, false, rfl, ?_, ⟨hz.1, by rw [← HB.out]; exact hvs⟩, hy.1, (by rw [← HB.out]; exact hrs), hex⟩
  rw [HZ.out, HRV9.out, ← NCT.out]
  rfl
 go_wp2_with ((with_reducible refine so2 [1000+24, 1000+45, 2000+45] ?_ ?_); (focus rfl))
 refine at9 (by go_simp) fun K0 hK => ld_v _ _ v rfl rfl A0.out (hK _ _ ?_)
 clear hK
 go_wp2_with ((with_reducible refine so2 [1000+24, 1000+45, 2000+45] ?_ ?_); (focus rfl))
 refine (C3.out _ BW.out).mono ?_
 rintro e w4 ⟨rfl, x4⟩
 clear C3
 replace A0 := Hi (A0.out.ext x4)
 replace Q0 := Hi (Q0.out.ext x4)
 replace Z0 := Hi (Z0.out.ext x4)
 replace Y0 := Hi (Y0.out.ext x4)
 replace BW := Hi (Ex.trans BW.out x4)
 clear x4
 cases rv
 case false =>
  replace HZ : Hid (Z = (zeroVc, errRc, false)) := Hi (by rw [HZ.out, if_pos (Or.inr ⟨HNZ.out.2 (by first | rfl | trivial), Or.inl rfl⟩)])
  go_wp2_with ((with_reducible refine so2 [1000+24, 1000+45, 2000+45] ?_ ?_); (focus rfl))
  refine at9 (by go_simp) fun K0 hK => wp_build _ _ rfl _ built_zero (hK _ _ ?_)
  clear hK
  go_wp2_with ((with_reducible refine so2 [1000+24, 1000+45, 2000+45] ?_ ?_); (focus rfl))
  refine at9 (by go_simp) fun K0 hK => wp_build _ _ rfl _ built_err (hK _ _ ?_)
  clear hK
  go_wp2_with ((with_reducible refine so2 [1000+24, 1000+45, 2000+45] ?_ ?_); (focus rfl))
  refine at9 (by go_simp) fun K0 hK => st_v _ _ (B + 2) zeroVt rfl rfl rfl zeroVt_ok Z0.out.2 (by rw [List.size_toArray, Vt.len Z0.out.1]) (fun w5 hd ho => hK _ _ ?_)
  clear hK
  replace Y0 := Hi (ho.rb Y0.out (by omega))
  replace BW := Hi (ho.below w.heap.size (by rw [← HB.out]; omega) w BW.out)
  replace Z0 := Hi hd
  clear hd ho
  go_wp2_with ((with_reducible refine so2 [1000+24, 1000+45, 2000+45] ?_ ?_); (focus rfl))
  refine at9 (by go_simp) fun K0 hK => st_r _ _ (B + 3) (repRt 12 z4 0 0) rfl rfl rfl (repRt_ok (by decide) (by decide) rfl (by decide) (by decide) (by decide) (by decide)) Y0.out.2 (by rw [List.size_toArray, Rt.len Y0.out.1]) (fun w6 hd ho => hK _ _ ?_)
  clear hK
  replace Z0 := Hi (ho.vb Z0.out (by omega))
  replace BW := Hi (ho.below w.heap.size (by rw [← HB.out]; omega) w BW.out)
  replace Y0 := Hi hd
  clear hd ho
  go_wp2_with fail
  refine bodyPost_ret (res_vr rfl _ _ (B + 2) (B + 3) rfl rfl zeroVt (repRt 12 z4 0 0) Z0.out Y0.out) rfl ⟨zeroVt, repRt 12 z4 0 0, false, rfl, ?_, ⟨zeroVt_ok, nilB_pn _ _⟩, Y0.out.1, nilB_pn _ _, BW.out⟩
  rw [HZ.out]; rfl
 go_wp2_with ((with_reducible refine so2 [1000+24, 1000+45, 2000+45] ?_ ?_); (focus rfl))
 refine at9 (by go_simp) fun K0 hK => ld_vid _ _ v rfl rfl A0.out (hK _ _ ?_)
 clear hK
 go_wp2_with ((with_reducible refine so2 [1000+24, 1000+45, 2000+45] ?_ ?_); (focus rfl))
 refine at9 (by go_simp) fun K0 hK => ld_qid _ _ q rfl rfl Q0.out (hK _ _ ?_)
 clear hK
 go_wp2_with ((with_reducible refine so2 [1000+24, 1000+45, 2000+45] ?_ ?_); (focus rfl))
 refine at9 (by go_simp) fun K0 hK => wp_neq_id _ _ _ rfl v.id q.id HOK.out.idN HQK.out.idN rfl rfl (hK _ _ ?_)
 clear hK
 by_cases hid : v.id = q.id
 case neg =>
  rw [decide_eq_false hid]
  have HID := Hi hid
  clear hid
  replace HZ : Hid (Z = (zeroVc, errRc, false)) := Hi (by rw [HZ.out, if_pos (Or.inr ⟨HNZ.out.2 (by first | rfl | trivial), Or.inr HID.out⟩)])
  go_wp2_with ((with_reducible refine so2 [1000+24, 1000+45, 2000+45] ?_ ?_); (focus rfl))
  refine at9 (by go_simp) fun K0 hK => wp_build _ _ rfl _ built_zero (hK _ _ ?_)
  clear hK
  go_wp2_with ((with_reducible refine so2 [1000+24, 1000+45, 2000+45] ?_ ?_); (focus rfl))
  refine at9 (by go_simp) fun K0 hK => wp_build _ _ rfl _ built_err (hK _ _ ?_)
  clear hK
  go_wp2_with ((with_reducible refine so2 [1000+24, 1000+45, 2000+45] ?_ ?_); (focus rfl))
  refine at9 (by go_simp) fun K0 hK => st_v _ _ (B + 2) zeroVt rfl rfl rfl zeroVt_ok Z0.out.2 (by rw [List.size_toArray, Vt.len Z0.out.1]) (fun w5 hd ho => hK _ _ ?_)
  clear hK
  replace Y0 := Hi (ho.rb Y0.out (by omega))
  replace BW := Hi (ho.below w.heap.size (by rw [← HB.out]; omega) w BW.out)
  replace Z0 := Hi hd
  clear hd ho
  go_wp2_with ((with_reducible refine so2 [1000+24, 1000+45, 2000+45] ?_ ?_); (focus rfl))
  refine at9 (by go_simp) fun K0 hK => st_r _ _ (B + 3) (repRt 12 z4 0 0) rfl rfl rfl (repRt_ok (by decide) (by decide) rfl (by decide) (by decide) (by decide) (by decide)) Y0.out.2 (by rw [List.size_toArray, Rt.len Y0.out.1]) (fun w6 hd ho => hK _ _ ?_)
  clear hK
  replace Z0 := Hi (ho.vb Z0.out (by omega))
  replace BW := Hi (ho.below w.heap.size (by rw [← HB.out]; omega) w BW.out)
  replace Y0 := Hi hd
  clear hd ho
  go_wp2_with fail
  refine bodyPost_ret (res_vr rfl _ _ (B + 2) (B + 3) rfl rfl zeroVt (repRt 12 z4 0 0) Z0.out Y0.out) rfl ⟨zeroVt, repRt 12 z4 0 0, false, rfl, ?_, ⟨zeroVt_ok, nilB_pn _ _⟩, Y0.out.1, nilB_pn _ _, BW.out⟩
  rw [HZ.out]; rfl
 rw [decide_eq_true hid]
 have HID := Hi hid
 clear hid
 have HSEC : Hid (v.sec.l.length ≤ 64 ∧ v.gen ≤ 1099511627776) := Hi (by have h := Vc.right_sec HRV.out.symm; exact ⟨h.1, h.2.1⟩)
 rw [if_neg (show ¬ (true = false ∨ (v.ct ≠ zeroVc ∧ (true = false ∨ v.ct.id ≠ q.ct.id))) from fun h => by rcases h with h | ⟨_, h | h⟩; cases h; cases h; exact h HID.out)] at HZ
 go_wp2_with ((with_reducible refine so2 [1000+24, 1000+45, 2000+45] ?_ ?_); (focus rfl))
 refine at9 (by go_simp) fun K0 hK => ld_qid _ _ q rfl rfl Q0.out (hK _ _ ?_)
 clear hK
 obtain ⟨q0, q21, q22, q55, q56⟩ := Q0.out.cells
 go_wp2_with ((with_reducible refine so2 [1000+24, 1000+45, 2000+45] ?_ ?_); (focus rfl))
 refine at9 (by go_simp) fun K0 hK => wp_build _ _ rfl _ (built_rep q.id q.client q.num HQK.out.idN) (hK _ _ ?_)
 clear hK
 go_wp2_with ((with_reducible refine so2 [1000+24, 1000+45, 2000+45] ?_ ?_); (focus rfl))
 refine at9 (by go_simp) fun K0 hK => st_r _ _ w4.heap.size (repRt 0 q.id q.client q.num) rfl rfl rfl (repRt_ok (by decide) (by decide) HQK.out.idN HQK.out.client0 HQK.out.client1 HQK.out.num0 HQK.out.num1) (Bk.new rfl _ _) (by rfl) (fun w5 hd ho => hK _ _ ?_)
 clear hK
 have x5 : Ex w4 w5 := ho.below w4.heap.size (Nat.le_refl _) w4 (Ex.alloc w4 _)
 have h8 : B + 4 ≤ w4.heap.size := Y0.out.lt
 replace A0 := Hi (A0.out.ext x5)
 replace Q0 := Hi (Q0.out.ext x5)
 replace Z0 := Hi (Z0.out.ext x5)
 replace Y0 := Hi (Y0.out.ext x5)
 replace BW := Hi (Ex.trans BW.out x5)
 clear x5
 generalize w4.heap.size = g8 at hd h8 ⊢
 have R0 := Hi hd
 have HG8 := Hi h8
 clear hd ho h8 q0 q21 q22 q55 q56
 go_wp2_with ((with_reducible refine so2 [1000+24, 1000+45, 2000+45] ?_ ?_); (focus rfl))
 refine at9 (by go_simp) fun K0 hK => ld_v _ _ v rfl rfl A0.out (hK _ _ ?_)
 clear hK
 go_wp2_with ((with_reducible refine so2 [1000+24, 1000+45, 2000+45] ?_ ?_); (focus rfl))
 refine (C4.out HSEC.out.1 _ BW.out).mono ?_
 rintro e w6 ⟨p, rfl, hpl, hpi, x6⟩
 have NS := Hi (hpi.less (show g8 + 1 ≤ w5.heap.size from R0.out.lt))
 have HPL := Hi hpl
 clear C4 hpl hpi
 replace A0 := Hi (A0.out.ext x6)
 replace Q0 := Hi (Q0.out.ext x6)
 replace Z0 := Hi (Z0.out.ext x6)
 replace Y0 := Hi (Y0.out.ext x6)
 replace R0 := Hi (R0.out.ext x6)
 replace BW := Hi (Ex.trans BW.out x6)
 clear x6
 obtain ⟨NV, hNV⟩ : ∃ NV : Vt, NV = { v with sec := p } := ⟨_, rfl⟩
 rw [← hNV]
 have NCT : Hid (NV.ct = v.ct) := Hi (by rw [hNV]; unfold Vt.ct; simp only [HPL.out])
 have NOK : Hid NV.Ok := Hi (by rw [hNV]; exact ⟨HOK.out.idN, HOK.out.gen0, HOK.out.gen1, HOK.out.pinN, HOK.out.lim0, HOK.out.lim1, HOK.out.used0, HOK.out.used1, HOK.out.ownN⟩)
 replace NS : Hid (PN w6 (g8 + 1) NV.sec) := Hi (by rw [hNV]; exact NS.out)
 clear hNV HPL
 go_wp2_with ((with_reducible refine so2 [1000+24, 1000+45, 2000+45] ?_ ?_); (focus rfl))
 refine at9 (by go_simp) fun K0 hK => st_v _ _ w6.heap.size NV rfl rfl rfl NOK.out (Bk.new rfl _ _) (by rfl) (fun w7 hd ho => hK _ _ ?_)
 clear hK
 have x7 : Ex w6 w7 := ho.below w6.heap.size (Nat.le_refl _) w6 (Ex.alloc w6 _)
 have h9 : g8 < w6.heap.size := R0.out.lt
 replace A0 := Hi (A0.out.ext x7)
 replace Q0 := Hi (Q0.out.ext x7)
 replace Z0 := Hi (Z0.out.ext x7)
 replace Y0 := Hi (Y0.out.ext x7)
 replace R0 := Hi (R0.out.ext x7)
 replace NS := Hi (NS.out.ext x7)
 replace BW := Hi (Ex.trans BW.out x7)
 clear x7
 generalize w6.heap.size = g9 at hd h9 ⊢
 have N0 := Hi hd
 have HG9 := Hi h9
 clear hd ho h9
 go_wp2_with ((with_reducible refine so2 [1000+24, 1000+45, 2000+45] ?_ ?_); (focus rfl))
 refine at9 (by go_simp) fun K0 hK => ld_v _ _ v rfl rfl A0.out (hK _ _ ?_)
 clear hK
 go_wp2_with ((with_reducible refine so2 [1000+24, 1000+45, 2000+45] ?_ ?_); (focus rfl))
 refine at9 (by go_simp) fun K0 hK => ld_q _ _ q rfl rfl Q0.out (hK _ _ ?_)
 clear hK
 go_wp2_with ((with_reducible refine so2 [1000+24, 1000+45, 2000+45] ?_ ?_); (focus rfl))
 refine (C5.out _ v HOK.out HOP.out _).mono ?_
 rintro e w10 ⟨rfl, x10⟩
 clear C5
 replace A0 := Hi (A0.out.ext x10)
 replace Q0 := Hi (Q0.out.ext x10)
 replace Z0 := Hi (Z0.out.ext x10)
 replace Y0 := Hi (Y0.out.ext x10)
 replace R0 := Hi (R0.out.ext x10)
 replace NS := Hi (NS.out.ext x10)
 replace N0 := Hi (N0.out.ext x10)
 replace BW := Hi (Ex.trans BW.out x10)
 clear x10
 obtain ⟨er, her⟩ : ∃ e, e = refuseC v.ct false q.ct := ⟨_, rfl⟩
 rw [← her]
 have HER := Hi her
 have he0 := refuse_in v.ct false q.ct
 rw [← her] at he0
 rw [← her] at HZ
 clear her
 go_wp2_with ((with_reducible refine so2 [1000+24, 1000+45, 2000+45] ?_ ?_); (focus rfl))
 refine at9 (by go_simp) fun K0 hK => st_rwhy (by kernel_rfl) _ _ g8 (repRt 0 q.id q.client q.num) er rfl rfl rfl (by omega) (by omega) R0.out (fun w11 hd ho => hK _ _ ?_)
 clear hK
 have h8 := HG8.out
 have h9 := HG9.out
 replace A0 := Hi (ho.vb A0.out (by omega))
 replace Q0 := Hi (ho.qb Q0.out (by omega))
 replace Z0 := Hi (ho.vb Z0.out (by omega))
 replace Y0 := Hi (ho.rb Y0.out (by omega))
 replace N0 := Hi (ho.vb N0.out (by omega))
 replace NS := Hi (NS.out.only ho (by omega))
 replace BW := Hi (ho.below w.heap.size (by rw [← HB.out]; omega) w BW.out)
 replace R0 := Hi (show RB w11 g8 (repRt er q.id q.client q.num) from hd)
 clear hd ho h8 h9 he0
 obtain ⟨r0, r5, r6, r7, r8, r9⟩ := R0.out.cells
 go_wp2_with ((with_reducible refine so2 [1000+24, 1000+45, 2000+45] ?_ ?_); (focus rfl))
 refine at9 (by go_simp) fun K0 hK => wp_eql_err _ _ _ rfl er 0 rfl rfl (hK _ _ ?_)
 clear hK
 clear r0 r5 r6 r7 r8 r9
 by_cases he : er = 0
 case pos =>
  rw [decide_eq_true he]
  rw [if_pos he] at HZ
  have HE := Hi he
  rw [he] at R0
  clear he
  go_wp2_with ((with_reducible refine so2 [1000+24, 1000+45, 2000+45] ?_ ?_); (focus rfl))
  refine at9 (by go_simp) fun K0 hK => ld_v _ _ NV rfl rfl N0.out (hK _ _ ?_)
  clear hK
  go_wp2_with ((with_reducible refine so2 [1000+24, 1000+45, 2000+45] ?_ ?_); (focus rfl))
  refine at9 (by go_simp) fun K0 hK => ld_q _ _ q rfl rfl Q0.out (hK _ _ ?_)
  clear hK
  go_wp2_with ((with_reducible refine so2 [1000+24, 1000+45, 2000+45] ?_ ?_); (focus rfl))
  refine (C6.out NV g8 (repRt 0 q.id q.client q.num) _ ⟨NOK.out, NS.out⟩ BW.out R0.out rfl (by have e := congrArg (fun c => c.sec.length) NCT.out; have e2 := HSEC.out.1; exact Nat.le_trans (Nat.le_of_eq e) e2) HQS.out HOP.out (fun h2 => by
   have h3 := refuse_ok (HER.out.symm.trans HE.out) h2
   have h4 := (Vc.right_sec (by first | exact HRV.out.symm | exact HRV.out)).2.2 h3.2
   have e1 := congrArg (fun c => c.used) NCT.out
   have e2 := congrArg (fun c => c.lim) NCT.out
   have e1 : NV.used = v.used := e1
   have e2 : NV.lim = v.lim := e2
   rw [e1, e2]; exact h4) (by have e := congrArg (fun c => c.gen) NCT.out; have e : NV.gen = v.gen := e; rw [e]; exact HSEC.out.2)).mono ?_
  rintro e w12 ⟨v', r', b, rfl, hz, hr4, hv4, hp4, m4⟩
  have h8 := HG8.out
  have h9 := HG9.out
  have HZ4 := Hi hz
  replace A0 := Hi (m4.vb A0.out (by omega))
  replace Q0 := Hi (m4.qb Q0.out (by omega))
  replace Z0 := Hi (m4.vb Z0.out (by omega))
  replace Y0 := Hi (m4.rb Y0.out (by omega))
  replace N0 := Hi (m4.vb N0.out (by omega))
  replace BW := Hi (m4.below w.heap.size (by rw [← HB.out]; omega) w BW.out)
  replace R0 := Hi hr4
  have V4 := Hi hv4.1
  replace NS := Hi hv4.2
  have RS := Hi hp4
  clear hz hr4 hv4 hp4 m4 C6 h8 h9
  go_wp2_with ((with_reducible refine so2 [1000+24, 1000+45, 2000+45] ?_ ?_); (focus rfl))
  refine at9 (by go_simp) fun K0 hK => st_v _ _ g9 v' rfl rfl rfl V4.out N0.out.2 (by rw [List.size_toArray, Vt.len N0.out.1]) (fun w13 hd ho => hK _ _ ?_)
  clear hK
  have h8 := HG8.out
  have h9 := HG9.out
  replace A0 := Hi (ho.vb A0.out (by omega))
  replace Q0 := Hi (ho.qb Q0.out (by omega))
  replace Z0 := Hi (ho.vb Z0.out (by omega))
  replace Y0 := Hi (ho.rb Y0.out (by omega))
  replace R0 := Hi (ho.rb R0.out (by omega))
  replace NS := Hi (NS.out.onlyT ho N0.out.2 (by decide))
  replace RS := Hi (RS.out.onlyT ho N0.out.2 (by decide))
  replace BW := Hi (ho.below w.heap.size (by rw [← HB.out]; omega) w BW.out)
  replace N0 := Hi hd
  have NVB := Hi (And.intro hd.1.gen0 hd.1.gen1)
  clear hd ho h8 h9
  obtain ⟨e4, e21, e22, e23, e40, e41⟩ := N0.out.cells
  go_wp2_with ((with_reducible refine so2 [1000+24, 1000+45, 2000+45] ?_ ?_); (focus rfl))
  refine at9 (by go_simp) fun K0 hK => st_rgen (by kernel_rfl) _ _ g8 r' v'.gen rfl rfl rfl NVB.out.1 NVB.out.2 R0.out (fun w8 hd ho => hK _ _ ?_)
  clear hK
  have hg9 := HG9.out
  have hg8 := HG8.out
  replace N0 := Hi (ho.vb N0.out (by omega))
  replace Z0 := Hi (ho.vb Z0.out (by omega))
  replace Y0 := Hi (ho.rb Y0.out (by omega))
  replace NS := Hi (NS.out.only ho (by omega))
  replace RS := Hi (RS.out.only ho (by omega))
  replace BW := Hi (ho.below w.heap.size (by rw [← HB.out]; have := HG8.out; omega) w BW.out)
  replace R0 := Hi hd
  clear hd ho hg9 hg8 e4 e21 e22 e23 e40 e41
  go_wp2_with ((with_reducible refine so2 [1000+24, 1000+45, 2000+45] ?_ ?_); (focus rfl))
  obtain ⟨RV, hRV⟩ : ∃ x, x = { r' with gen := v'.gen } := ⟨_, rfl⟩
  have HRV9 := Hi hRV
  rw [← hRV] at R0
  replace RS := Hi (show PN w8 (g8 + 1) RV.sec by rw [hRV]; exact RS.out)
  clear hRV
  have D0 : Hid (DI B g8 g9 w v' RV false false w8) := Hi ⟨⟨_, Z0.out, fun h => by cases h⟩, ⟨_, Y0.out, fun h => by cases h⟩, N0.out, R0.out, NS.out.less (by have := HG8.out; omega), RS.out.less (by have := HG8.out; omega), BW.out, HB.out.symm, HG8.out, (by have := HG9.out; have := HG8.out; omega)⟩
  clear Z0 Y0 N0 R0 NS RS BW A0 Q0
  refine wp_region_val (fun i => [v'.V, RV.V, .bool b, undef, undef, .bool b].getD i undef) (fun l => DI B g8 g9 w v' RV (l.getD 3 false) (l.getD 4 false)) (by kernel_rfl) (by kernel_rfl) (by kernel_rfl) (fitB_spec (by kernel_rfl)) ?_ ?_ ?_
  ·intro l h0
   rw [h0, h0]
   exact ⟨D0.out.z.elim fun x h => ⟨x, h.1.ext (Below.refl _ _).drew, h.2⟩, D0.out.y.elim fun x h => ⟨x, h.1.ext (Below.refl _ _).drew, h.2⟩, D0.out.vb.ext (Below.refl _ _).drew, D0.out.rb.ext (Below.refl _ _).drew, D0.out.vs.ext (Below.refl _ _).drew, D0.out.rs.ext (Below.refl _ _).drew, D0.out.ex.drew, D0.out.sz, D0.out.lt8, D0.out.lt9⟩
  ·intro i o ho
   have hi : i < 6 := (Array.getElem?_eq_some_iff.1 ho).1
   have hi' : i = 0 ∨ i = 1 ∨ i = 2 ∨ i = 3 ∨ i = 4 ∨ i = 5 := by omega
   clear hi
   rcases hi' with rfl | rfl | rfl | rfl | rfl | rfl
   all_goals (simp only [List.getElem?_toArray, List.getElem?_cons_zero, List.getElem?_cons_succ, Option.some.injEq] at ho; subst ho; intro listed a w2 hI hsz hls hun hdep hout)
   ·rw [if_pos (by rfl)]
    intro K hK
    have q9 := hout 9 (outB_spec (by kernel_rfl))
    refine ld_v _ g9 v' rfl q9 hI.vb (hK _ ?_)
    show DI B g8 g9 w v' RV ((listed.setIfInBounds 0 true).getD 3 false) ((listed.setIfInBounds 0 true).getD 4 false) _; rw [bit_set (by decide), bit_set (by decide)]; exact hI
   ·rw [if_pos (by rfl)]
    intro K hK
    have q8 := hout 8 (outB_spec (by kernel_rfl))
    refine ld_r _ g8 RV rfl q8 hI.rb (hK _ ?_)
    show DI B g8 g9 w v' RV ((listed.setIfInBounds 1 true).getD 3 false) ((listed.setIfInBounds 1 true).getD 4 false) _; rw [bit_set (by decide), bit_set (by decide)]; exact hI
   ·rw [if_pos (by rfl)]
    intro K hK
    have q10 := hout 10 (outB_spec (by kernel_rfl))
    refine wp_mv _ rfl ?_
    rw [show a.eval (.tmp 10) = .bool b from q10]
    refine hK _ ?_
    show DI B g8 g9 w v' RV ((listed.setIfInBounds 2 true).getD 3 false) ((listed.setIfInBounds 2 true).getD 4 false) _; rw [bit_set (by decide), bit_set (by decide)]; exact hI
   ·rw [if_pos (by rfl)]
    intro K hK
    have q4 := hout 4 (outB_spec (by kernel_rfl))
    have q61 := (hdep ⟨0, .data⟩ (by simp) rfl).2 _ rfl _ rfl
    have q61 : a.tmps.getD 61 undef = v'.V := q61
    obtain ⟨x, hx, _⟩ := hI.z
    refine st_v _ _ (B + 2) v' rfl q4 q61 hI.vb.1 hx.2 (by rw [List.size_toArray, Vt.len hx.1]) (fun w9 hd ho => hK _ ?_)
    show DI B g8 g9 w v' RV ((listed.setIfInBounds 3 true).getD 3 false) ((listed.setIfInBounds 3 true).getD 4 false) _; rw [bit_new (by rw [hls]; decide), bit_set (by decide)]; exact hI.st3 hd ho
   ·rw [if_pos (by rfl)]
    intro K hK
    have q5 := hout 5 (outB_spec (by kernel_rfl))
    have q62 := (hdep ⟨1, .data⟩ (by simp) rfl).2 _ rfl _ rfl
    have q62 : a.tmps.getD 62 undef = RV.V := q62
    obtain ⟨x, hx, _⟩ := hI.y
    refine st_r _ _ (B + 3) RV rfl q5 q62 hI.rb.1 hx.2 (by rw [List.size_toArray, Rt.len hx.1]) (fun w9 hd ho => hK _ ?_)
    show DI B g8 g9 w v' RV ((listed.setIfInBounds 4 true).getD 3 false) ((listed.setIfInBounds 4 true).getD 4 false) _; rw [bit_set (by decide), bit_new (by rw [hls]; decide)]; exact hI.st4 hd ho
   rw [if_pos (by rfl)]
   intro K hK
   have q63 := (hdep ⟨2, .data⟩ (by simp) rfl).2 _ rfl _ rfl
   have q63 : a.tmps.getD 63 undef = .bool b := q63
   rw [Array.getD_eq_getD_getElem?] at q63
   clear hsz hdep hout hun
   go_simp
   refine hK _ ?_
   show DI B g8 g9 w v' RV ((listed.setIfInBounds 5 true).getD 3 false) ((listed.setIfInBounds 5 true).getD 4 false) _; rw [bit_set (by decide), bit_set (by decide)]; exact hI
  intro listed w2 hall hI
  rw [hall 3 (by simp), hall 4 (by simp)] at hI
  obtain ⟨z, hz, ez⟩ := hI.z
  obtain ⟨y, hy, ey⟩ := hI.y
  rw [ez rfl] at hz
  rw [ey rfl] at hy
  have hvs := hI.vs
  have hrs := hI.rs
  have hex := hI.ex
  clear hI hall ez ey D0
  simp only [putAll, Act.put, List.setIfInBounds_toArray, List.set_cons_zero, List.set_cons_succ, Nat.zero_add, Nat.reduceAdd]
  go_wp2_with fail
  refine bodyPost_ret (res_vr rfl _ _ (B + 2) (B + 3) rfl rfl v' RV hz hy) rfl ⟨v', RV, b, rfl, ?_, ⟨hz.1, by rw [← HB.out]; exact hvs⟩, hy.1, (by rw [← HB.out]; exact hrs), hex⟩
  rw [HZ.out]
  have e := HZ4.out
  rw [show NV.ct = v.ct from NCT.out] at e
  rw [show actC v.ct q.ct (repRt 0 q.ct.id q.ct.client q.ct.num).ct = actC v.ct q.ct (repRt 0 q.id q.client q.num).ct from rfl, ← e, HRV9.out]
  rfl
 rw [decide_eq_false he]
 rw [if_neg he] at HZ
 clear he C6
 have NVB := Hi (And.intro NOK.out.gen0 NOK.out.gen1)
 have RS : Hid (PN w11 (g8 + 1) (repRt er q.id q.client q.num).sec) := Hi (nilB_pn _ _)
 obtain ⟨e4, e21, e22, e23, e40, e41⟩ := N0.out.cells
 go_wp2_with ((with_reducible refine so2 [1000+24, 1000+45, 2000+45] ?_ ?_); (focus rfl))
 refine at9 (by go_simp) fun K0 hK => st_rgen (by kernel_rfl) _ _ g8 (repRt er q.id q.client q.num) NV.gen rfl rfl rfl NVB.out.1 NVB.out.2 R0.out (fun w8 hd ho => hK _ _ ?_)
 clear hK
 have hg9 := HG9.out
 have hg8 := HG8.out
 replace N0 := Hi (ho.vb N0.out (by omega))
 replace Z0 := Hi (ho.vb Z0.out (by omega))
 replace Y0 := Hi (ho.rb Y0.out (by omega))
 replace NS := Hi (NS.out.only ho (by omega))
 replace RS := Hi (RS.out.only ho (by omega))
 replace BW := Hi (ho.below w.heap.size (by rw [← HB.out]; have := HG8.out; omega) w BW.out)
 replace R0 := Hi hd
 clear hd ho hg9 hg8 e4 e21 e22 e23 e40 e41
 go_wp2_with ((with_reducible refine so2 [1000+24, 1000+45, 2000+45] ?_ ?_); (focus rfl))
 obtain ⟨RV, hRV⟩ : ∃ x, x = { (repRt er q.id q.client q.num) with gen := NV.gen } := ⟨_, rfl⟩
 have HRV9 := Hi hRV
 rw [← hRV] at R0
 replace RS := Hi (show PN w8 (g8 + 1) RV.sec by rw [hRV]; exact RS.out)
 clear hRV
 have D0 : Hid (DI B g8 g9 w NV RV false false w8) := Hi ⟨⟨_, Z0.out, fun h => by cases h⟩, ⟨_, Y0.out, fun h => by cases h⟩, N0.out, R0.out, NS.out.less (by have := HG8.out; omega), RS.out.less (by have := HG8.out; omega), BW.out, HB.out.symm, HG8.out, (by have := HG9.out; have := HG8.out; omega)⟩
 clear Z0 Y0 N0 R0 NS RS BW A0 Q0
 refine wp_region_val (fun i => [NV.V, RV.V, .bool false, undef, undef, .bool false].getD i undef) (fun l => DI B g8 g9 w NV RV (l.getD 3 false) (l.getD 4 false)) (by kernel_rfl) (by kernel_rfl) (by kernel_rfl) (fitB_spec (by kernel_rfl)) ?_ ?_ ?_
 ·intro l h0
  rw [h0, h0]
  exact ⟨D0.out.z.elim fun x h => ⟨x, h.1.ext (Below.refl _ _).drew, h.2⟩, D0.out.y.elim fun x h => ⟨x, h.1.ext (Below.refl _ _).drew, h.2⟩, D0.out.vb.ext (Below.refl _ _).drew, D0.out.rb.ext (Below.refl _ _).drew, D0.out.vs.ext (Below.refl _ _).drew, D0.out.rs.ext (Below.refl _ _).drew, D0.out.ex.drew, D0.out.sz, D0.out.lt8, D0.out.lt9⟩
 ·intro i o ho
  have hi : i < 6 := (Array.getElem?_eq_some_iff.1 ho).1
  have hi' : i = 0 ∨ i = 1 ∨ i = 2 ∨ i = 3 ∨ i = 4 ∨ i = 5 := by omega
  clear hi
  rcases hi' with rfl | rfl | rfl | rfl | rfl | rfl
  all_goals (simp only [List.getElem?_toArray, List.getElem?_cons_zero, List.getElem?_cons_succ, Option.some.injEq] at ho; subst ho; intro listed a w2 hI hsz hls hun hdep hout)
  ·rw [if_pos (by rfl)]
   intro K hK
   have q9 := hout 9 (outB_spec (by kernel_rfl))
   refine ld_v _ g9 NV rfl q9 hI.vb (hK _ ?_)
   show DI B g8 g9 w NV RV ((listed.setIfInBounds 0 true).getD 3 false) ((listed.setIfInBounds 0 true).getD 4 false) _; rw [bit_set (by decide), bit_set (by decide)]; exact hI
  ·rw [if_pos (by rfl)]
   intro K hK
   have q8 := hout 8 (outB_spec (by kernel_rfl))
   refine ld_r _ g8 RV rfl q8 hI.rb (hK _ ?_)
   show DI B g8 g9 w NV RV ((listed.setIfInBounds 1 true).getD 3 false) ((listed.setIfInBounds 1 true).getD 4 false) _; rw [bit_set (by decide), bit_set (by decide)]; exact hI
  ·rw [if_pos (by rfl)]
   intro K hK
   have q10 := hout 10 (outB_spec (by kernel_rfl))
   refine wp_mv _ rfl ?_
   rw [show a.eval (.tmp 10) = .bool false from q10]
   refine hK _ ?_
   show DI B g8 g9 w NV RV ((listed.setIfInBounds 2 true).getD 3 false) ((listed.setIfInBounds 2 true).getD 4 false) _; rw [bit_set (by decide), bit_set (by decide)]; exact hI
  ·rw [if_pos (by rfl)]
   intro K hK
   have q4 := hout 4 (outB_spec (by kernel_rfl))
   have q61 := (hdep ⟨0, .data⟩ (by simp) rfl).2 _ rfl _ rfl
   have q61 : a.tmps.getD 61 undef = NV.V := q61
   obtain ⟨x, hx, _⟩ := hI.z
   refine st_v _ _ (B + 2) NV rfl q4 q61 hI.vb.1 hx.2 (by rw [List.size_toArray, Vt.len hx.1]) (fun w9 hd ho => hK _ ?_)
   show DI B g8 g9 w NV RV ((listed.setIfInBounds 3 true).getD 3 false) ((listed.setIfInBounds 3 true).getD 4 false) _; rw [bit_new (by rw [hls]; decide), bit_set (by decide)]; exact hI.st3 hd ho
  ·rw [if_pos (by rfl)]
   intro K hK
   have q5 := hout 5 (outB_spec (by kernel_rfl))
   have q62 := (hdep ⟨1, .data⟩ (by simp) rfl).2 _ rfl _ rfl
   have q62 : a.tmps.getD 62 undef = RV.V := q62
   obtain ⟨x, hx, _⟩ := hI.y
   refine st_r _ _ (B + 3) RV rfl q5 q62 hI.rb.1 hx.2 (by rw [List.size_toArray, Rt.len hx.1]) (fun w9 hd ho => hK _ ?_)
   show DI B g8 g9 w NV RV ((listed.setIfInBounds 4 true).getD 3 false) ((listed.setIfInBounds 4 true).getD 4 false) _; rw [bit_set (by decide), bit_new (by rw [hls]; decide)]; exact hI.st4 hd ho
  rw [if_pos (by rfl)]
  intro K hK
  have q63 := (hdep ⟨2, .data⟩ (by simp) rfl).2 _ rfl _ rfl
  have q63 : a.tmps.getD 63 undef = .bool false := q63
  rw [Array.getD_eq_getD_getElem?] at q63
  clear hsz hdep hout hun
  go_simp
  refine hK _ ?_
  show DI B g8 g9 w NV RV ((listed.setIfInBounds 5 true).getD 3 false) ((listed.setIfInBounds 5 true).getD 4 false) _; rw [bit_set (by decide), bit_set (by decide)]; exact hI
 intro listed w2 hall hI
 rw [hall 3 (by simp), hall 4 (by simp)] at hI
 obtain ⟨z, hz, ez⟩ := hI.z
 obtain ⟨y, hy, ey⟩ := hI.y
 rw [ez rfl] at hz
 rw [ey rfl] at hy
 have hvs := hI.vs
 have hrs := hI.rs
 have hex := hI.ex
 clear hI hall ez ey D0
 simp only [putAll, Act.put, List.setIfInBounds_toArray, List.set_cons_zero, List.set_cons_succ, Nat.zero_add, Nat.reduceAdd]
 go_wp2_with fail
 refine bodyPost_ret (res_vr rfl _ _ (B + 2) (B + 3) rfl rfl NV RV hz hy) rfl ⟨NV, RV, false, rfl, ?_, ⟨hz.1, by rw [← HB.out]; exact hvs⟩, hy.1, (by rw [← HB.out]; exact hrs), hex⟩
 rw [HZ.out, HRV9.out, ← NCT.out]
 rfl
end Go.Proofs.Ytmjfnpmnhehnkaa
