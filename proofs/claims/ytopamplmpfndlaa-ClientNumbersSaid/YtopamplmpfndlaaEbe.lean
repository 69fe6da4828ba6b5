/- Cg, Cm -/
import Derived.Test.YtopamplmpfndlaaEbd
set_option maxRecDepth 100000
set_option maxHeartbeats 16000000
namespace Go.Proofs.Ytopamplmpfndlaa.Cl
open Go.RowKit
def Rcright (c : Rc) : Bool := decide (0 ≤ c.why) && decide (c.why ≤ 255) && decide (c.gen ≤ 1099511627776) && decide (0 ≤ c.left) && decide (c.left ≤ 32) && decide (0 ≤ c.client ∧ c.client < 4 ∧ c.num ≤ 1099511627776) && decide (c.sec.length ≤ 64)
theorem Rcright_iff (c : Rc) : Rcright c = true ↔ (0 ≤ c.why ∧ c.why ≤ 255 ∧ c.gen ≤ 1099511627776 ∧ 0 ≤ c.left ∧ c.left ≤ 32 ∧ (0 ≤ c.client ∧ c.client < 4 ∧ c.num ≤ 1099511627776) ∧ c.sec.length ≤ 64) := by
 unfold Rcright
 simp only [Bool.and_eq_true, decide_eq_true_eq, and_assoc]
theorem secret8_any (p : Pt) (m : Nat) (hv : p.V = .slice p.ad m p.cap) (hm : m = p.l.length) (w : World) : Calls Try.prog 143 #[.slice p.ad m p.cap] w fun e w' => e = .returned (.bool (decide (m ≤ 64))) ∧ w = w' := by
 have h := Go.Proofs.Ytopamplmpfndlaa.secret_any p w
 rw [hv, ← hm] at h
 exact h
theorem rpright_any (q : Rt) (w : World) (hq : RI w q) : Calls Try.prog 110 #[q.V] w fun e w' => e = .returned (.bool (Rcright q.ct)) ∧ Ex w w' := by
 obtain ⟨ds, hds⟩ : ∃ ds, ds = q.C.toArray := ⟨_, rfl⟩
 have Q0 : Hid (RB (w.alloc (.cells ds 29)) w.heap.size q) := Hi ⟨hq.1, by rw [hds]; exact Bk.new rfl _ _⟩
 have BW : Hid (Ex w (w.alloc (.cells ds 29))) := Hi (Ex.alloc _ _)
 obtain ⟨m, hm⟩ : ∃ m, m = q.sec.l.length := ⟨_, rfl⟩
 have hpv : q.sec.V = .slice q.sec.ad m q.sec.cap := by unfold Pt.V; rw [hm]
 have HM := Hi hm
 have HB : Hid (Rcright q.ct = true ↔ (0 ≤ q.why ∧ q.why ≤ 255 ∧ q.gen ≤ 1099511627776 ∧ 0 ≤ q.left ∧ q.left ≤ 32 ∧ (0 ≤ q.client ∧ q.client < 4 ∧ q.num ≤ 1099511627776) ∧ m ≤ 64)) := Hi (by rw [hm]; exact Rcright_iff q.ct)
 have HPV := Hi hpv
 have b0 := hq.1.why0
 have b1 := hq.1.why1
 have b2 := hq.1.gen0
 have b3 := hq.1.gen1
 have b4 := hq.1.left0
 have b5 := hq.1.left1
 have b6 := hq.1.client0
 have b7 := hq.1.client1
 have b8 := hq.1.num0
 have b9 := hq.1.num1
 skip
 rw [show (Calls Try.prog 110 #[q.V] w) = (Calls Try.prog 110 #[.agg ds] w) by rw [hds]; rfl]
 clear hds hq hm hpv
 go_enter Try.func110, Try.ntmps110
 go_wp2_with ((with_reducible refine so4 [24] ?_ ?_); (focus rfl))
 (with_reducible refine ⟨?_⟩)
 change wpList _ _ _ _ _ (w.alloc (.cells ds 29))
 generalize (w.alloc (.cells ds 29)) = z0 at Q0 BW ⊢
 obtain ⟨g, hg⟩ : ∃ g, g = w.heap.size := ⟨_, rfl⟩
 rw [← hg] at Q0 ⊢
 clear hg
 obtain ⟨c0, c5, c6, c7, c8, c9⟩ := Q0.out.cells
 rw [HPV.out] at c7
 by_cases k0 : 0 ≤ q.why
 rotate_left
 ·go_wp2_with fail
  go_ret
  exact ⟨by rw [Bool.eq_false_iff.2 (fun e => absurd (HB.out.1 e) (by omega))]; first | rfl | (rw [decide_eq_false (show ¬ (m : Int) ≤ 64 by omega)]; rfl), BW.out⟩
 by_cases k1 : q.why ≤ 255
 rotate_left
 ·go_wp2_with fail
  go_ret
  exact ⟨by rw [Bool.eq_false_iff.2 (fun e => absurd (HB.out.1 e) (by omega))]; first | rfl | (rw [decide_eq_false (show ¬ (m : Int) ≤ 64 by omega)]; rfl), BW.out⟩
 by_cases k2 : q.gen ≤ 1099511627776
 rotate_left
 ·go_wp2_with fail
  go_ret
  exact ⟨by rw [Bool.eq_false_iff.2 (fun e => absurd (HB.out.1 e) (by omega))]; first | rfl | (rw [decide_eq_false (show ¬ (m : Int) ≤ 64 by omega)]; rfl), BW.out⟩
 by_cases k3 : 0 ≤ q.left
 rotate_left
 ·go_wp2_with fail
  go_ret
  exact ⟨by rw [Bool.eq_false_iff.2 (fun e => absurd (HB.out.1 e) (by omega))]; first | rfl | (rw [decide_eq_false (show ¬ (m : Int) ≤ 64 by omega)]; rfl), BW.out⟩
 by_cases k4 : q.left ≤ 32
 rotate_left
 ·go_wp2_with fail
  go_ret
  exact ⟨by rw [Bool.eq_false_iff.2 (fun e => absurd (HB.out.1 e) (by omega))]; first | rfl | (rw [decide_eq_false (show ¬ (m : Int) ≤ 64 by omega)]; rfl), BW.out⟩
 by_cases k5 : 0 ≤ q.client ∧ q.client < 4 ∧ q.num ≤ 1099511627776
 rotate_left
 ·go_wp2_with fail
  refine (sender_any q.client q.num _).mono ?_
  rintro e w9 ⟨rfl, rfl⟩
  rw [decide_eq_false (show ¬ (0 ≤ q.client ∧ q.client < 4 ∧ q.num ≤ 1099511627776) by omega)]
  go_wp2_with fail
  go_ret
  exact ⟨by rw [Bool.eq_false_iff.2 (fun e => absurd (HB.out.1 e) (by omega))]; first | rfl | (rw [decide_eq_false (show ¬ (m : Int) ≤ 64 by omega)]; rfl), BW.out⟩
 by_cases k6 : m ≤ 64
 rotate_left
 ·go_wp2_with fail
  refine (sender_any q.client q.num _).mono ?_
  rintro e w9 ⟨rfl, rfl⟩
  rw [decide_eq_true (show 0 ≤ q.client ∧ q.client < 4 ∧ q.num ≤ 1099511627776 by omega)]
  go_wp2_with fail
  refine (secret8_any q.sec m HPV.out HM.out _).mono ?_
  rintro e w9 ⟨rfl, rfl⟩
  rw [decide_eq_false (show ¬ (m ≤ 64) by omega)]
  go_wp2_with fail
  go_ret
  exact ⟨by rw [Bool.eq_false_iff.2 (fun e => absurd (HB.out.1 e) (by omega))]; first | rfl | (rw [decide_eq_false (show ¬ (m : Int) ≤ 64 by omega)]; rfl), BW.out⟩
 go_wp2_with fail
 refine (sender_any q.client q.num _).mono ?_
 rintro e w9 ⟨rfl, rfl⟩
 rw [decide_eq_true (show 0 ≤ q.client ∧ q.client < 4 ∧ q.num ≤ 1099511627776 by omega)]
 go_wp2_with fail
 refine (secret8_any q.sec m HPV.out HM.out _).mono ?_
 rintro e w9 ⟨rfl, rfl⟩
 rw [decide_eq_true (show m ≤ 64 by omega)]
 go_wp2_with fail
 go_ret
 exact ⟨by rw [HB.out.2 (by omega)]; first | rfl | (rw [decide_eq_true (show (m : Int) ≤ 64 by omega)]; rfl), BW.out⟩
theorem rrright_any (q : Rt) (w : World) (hq : RI w q) : Calls Try.prog 177 #[q.V] w fun e w' => e = .returned (.bool (Rcright q.ct)) ∧ Ex w w' := by
 obtain ⟨ds, hds⟩ : ∃ ds, ds = q.C.toArray := ⟨_, rfl⟩
 have Q0 : Hid (RB (w.alloc (.cells ds 29)) w.heap.size q) := Hi ⟨hq.1, by rw [hds]; exact Bk.new rfl _ _⟩
 have BW : Hid (Ex w (w.alloc (.cells ds 29))) := Hi (Ex.alloc _ _)
 obtain ⟨m, hm⟩ : ∃ m, m = q.sec.l.length := ⟨_, rfl⟩
 have hpv : q.sec.V = .slice q.sec.ad m q.sec.cap := by unfold Pt.V; rw [hm]
 have HM := Hi hm
 have HB : Hid (Rcright q.ct = true ↔ (0 ≤ q.why ∧ q.why ≤ 255 ∧ q.gen ≤ 1099511627776 ∧ 0 ≤ q.left ∧ q.left ≤ 32 ∧ (0 ≤ q.client ∧ q.client < 4 ∧ q.num ≤ 1099511627776) ∧ m ≤ 64)) := Hi (by rw [hm]; exact Rcright_iff q.ct)
 have HPV := Hi hpv
 have b0 := hq.1.why0
 have b1 := hq.1.why1
 have b2 := hq.1.gen0
 have b3 := hq.1.gen1
 have b4 := hq.1.left0
 have b5 := hq.1.left1
 have b6 := hq.1.client0
 have b7 := hq.1.client1
 have b8 := hq.1.num0
 have b9 := hq.1.num1
 skip
 rw [show (Calls Try.prog 177 #[q.V] w) = (Calls Try.prog 177 #[.agg ds] w) by rw [hds]; rfl]
 clear hds hq hm hpv
 go_enter Try.func177, Try.ntmps177
 go_wp2_with ((with_reducible refine so4 [24] ?_ ?_); (focus rfl))
 (with_reducible refine ⟨?_⟩)
 change wpList _ _ _ _ _ (w.alloc (.cells ds 29))
 generalize (w.alloc (.cells ds 29)) = z0 at Q0 BW ⊢
 obtain ⟨g, hg⟩ : ∃ g, g = w.heap.size := ⟨_, rfl⟩
 rw [← hg] at Q0 ⊢
 clear hg
 obtain ⟨c0, c5, c6, c7, c8, c9⟩ := Q0.out.cells
 rw [HPV.out] at c7
 by_cases k0 : 0 ≤ q.why
 rotate_left
 ·go_wp2_with fail
  go_ret
  exact ⟨by rw [Bool.eq_false_iff.2 (fun e => absurd (HB.out.1 e) (by omega))]; first | rfl | (rw [decide_eq_false (show ¬ (m : Int) ≤ 64 by omega)]; rfl), BW.out⟩
 by_cases k1 : q.why ≤ 255
 rotate_left
 ·go_wp2_with fail
  go_ret
  exact ⟨by rw [Bool.eq_false_iff.2 (fun e => absurd (HB.out.1 e) (by omega))]; first | rfl | (rw [decide_eq_false (show ¬ (m : Int) ≤ 64 by omega)]; rfl), BW.out⟩
 by_cases k2 : q.gen ≤ 1099511627776
 rotate_left
 ·go_wp2_with fail
  refine (rnum_any q.gen _).mono ?_
  rintro e w9 ⟨rfl, rfl⟩
  rw [decide_eq_false (show ¬ (q.gen ≤ 1099511627776) by omega)]
  go_wp2_with fail
  go_ret
  exact ⟨by rw [Bool.eq_false_iff.2 (fun e => absurd (HB.out.1 e) (by omega))]; first | rfl | (rw [decide_eq_false (show ¬ (m : Int) ≤ 64 by omega)]; rfl), BW.out⟩
 by_cases k3 : 0 ≤ q.left
 rotate_left
 ·go_wp2_with fail
  refine (rnum_any q.gen _).mono ?_
  rintro e w9 ⟨rfl, rfl⟩
  rw [decide_eq_true (show q.gen ≤ 1099511627776 by omega)]
  go_wp2_with fail
  go_ret
  exact ⟨by rw [Bool.eq_false_iff.2 (fun e => absurd (HB.out.1 e) (by omega))]; first | rfl | (rw [decide_eq_false (show ¬ (m : Int) ≤ 64 by omega)]; rfl), BW.out⟩
 by_cases k4 : q.left ≤ 32
 rotate_left
 ·go_wp2_with fail
  refine (rnum_any q.gen _).mono ?_
  rintro e w9 ⟨rfl, rfl⟩
  rw [decide_eq_true (show q.gen ≤ 1099511627776 by omega)]
  go_wp2_with fail
  go_ret
  exact ⟨by rw [Bool.eq_false_iff.2 (fun e => absurd (HB.out.1 e) (by omega))]; first | rfl | (rw [decide_eq_false (show ¬ (m : Int) ≤ 64 by omega)]; rfl), BW.out⟩
 by_cases k5 : 0 ≤ q.client
 rotate_left
 ·go_wp2_with fail
  refine (rnum_any q.gen _).mono ?_
  rintro e w9 ⟨rfl, rfl⟩
  rw [decide_eq_true (show q.gen ≤ 1099511627776 by omega)]
  go_wp2_with fail
  go_ret
  exact ⟨by rw [Bool.eq_false_iff.2 (fun e => absurd (HB.out.1 e) (by omega))]; first | rfl | (rw [decide_eq_false (show ¬ (m : Int) ≤ 64 by omega)]; rfl), BW.out⟩
 by_cases k6 : q.client < 4
 rotate_left
 ·go_wp2_with fail
  refine (rnum_any q.gen _).mono ?_
  rintro e w9 ⟨rfl, rfl⟩
  rw [decide_eq_true (show q.gen ≤ 1099511627776 by omega)]
  go_wp2_with fail
  go_ret
  exact ⟨by rw [Bool.eq_false_iff.2 (fun e => absurd (HB.out.1 e) (by omega))]; first | rfl | (rw [decide_eq_false (show ¬ (m : Int) ≤ 64 by omega)]; rfl), BW.out⟩
 by_cases k7 : q.num ≤ 1099511627776
 rotate_left
 ·go_wp2_with fail
  refine (rnum_any q.gen _).mono ?_
  rintro e w9 ⟨rfl, rfl⟩
  rw [decide_eq_true (show q.gen ≤ 1099511627776 by omega)]
  go_wp2_with fail
  refine (rnum_any q.num _).mono ?_
  rintro e w9 ⟨rfl, rfl⟩
  rw [decide_eq_false (show ¬ (q.num ≤ 1099511627776) by omega)]
  go_wp2_with fail
  go_ret
  exact ⟨by rw [Bool.eq_false_iff.2 (fun e => absurd (HB.out.1 e) (by omega))]; first | rfl | (rw [decide_eq_false (show ¬ (m : Int) ≤ 64 by omega)]; rfl), BW.out⟩
 by_cases k8 : (m : Int) ≤ 64
 rotate_left
 ·go_wp2_with fail
  refine (rnum_any q.gen _).mono ?_
  rintro e w9 ⟨rfl, rfl⟩
  rw [decide_eq_true (show q.gen ≤ 1099511627776 by omega)]
  go_wp2_with fail
  refine (rnum_any q.num _).mono ?_
  rintro e w9 ⟨rfl, rfl⟩
  rw [decide_eq_true (show q.num ≤ 1099511627776 by omega)]
  go_wp2_with fail
  go_ret
  exact ⟨by rw [Bool.eq_false_iff.2 (fun e => absurd (HB.out.1 e) (by omega))]; first | rfl | (rw [decide_eq_false (show ¬ (m : Int) ≤ 64 by omega)]; rfl), BW.out⟩
 go_wp2_with fail
 refine (rnum_any q.gen _).mono ?_
 rintro e w9 ⟨rfl, rfl⟩
 rw [decide_eq_true (show q.gen ≤ 1099511627776 by omega)]
 go_wp2_with fail
 refine (rnum_any q.num _).mono ?_
 rintro e w9 ⟨rfl, rfl⟩
 rw [decide_eq_true (show q.num ≤ 1099511627776 by omega)]
 go_wp2_with fail
 go_ret
 exact ⟨by rw [HB.out.2 (by omega)]; first | rfl | (rw [decide_eq_true (show (m : Int) ≤ 64 by omega)]; rfl), BW.out⟩
end Go.Proofs.Ytopamplmpfndlaa.Cl
namespace Go.Proofs.Ytopamplmpfndlaa.Cl
open Go.RowKit
theorem conv_row {w : World} {B : Nat} {v : Value} {l : List UInt8} (h : ownU w B v l) : (convert 23 9 v).run Try.prog w = .ok (.string (strL l)) w := by
 obtain ⟨p, rfl, hl, hi, _⟩ := own_pt h
 rw [← hl]
 exact pt_conv p w hi
theorem conv_V (p : Pt) (w : World) {B : Nat} (h : p.In w B) : (convert 23 9 p.V).run Try.prog w = .ok (.string (strL p.l)) w := pt_conv p w h
theorem wp_conv {o : Oper} {a : Act} {w : World} {K : Act → World → Prop} {Q : Exit → Act → World → Prop} (x : Operand) (ho : o.op = .convert 23 9 x) (v : Value) (l : List UInt8) (ha : a.eval x = v) (h : (convert 23 9 v).run Try.prog w = .ok (.string (strL l)) w) (hk : K (a.put o.dst (.string (strL l))) w) : o.wp Try.prog a w K Q := by
 unfold Oper.wp execOp
 simp only [ho, ha, Sem.run_bind, h]
 exact hk
def Rw.rowU {B : Nat} (l : List UInt8) : Rw B := ⟨[5], fun v w => ∃ b, ownU w b v l, fun _ _ _ _ ⟨b, h⟩ k hs => ⟨b, k.row h (hs _ (List.mem_singleton.2 rfl))⟩⟩
theorem reqs_any (q p : Qt) (he : q.ct = p.ct) (w : World) (hq : QI w q) (hp : QI w p) (hm : q.sec.l.length ≤ 900000) : Calls Try.prog 27 #[q.V, p.V] w fun e w' => e = .returned (.bool true) ∧ Ex w w' := by
 obtain ⟨ds, hds⟩ : ∃ ds, ds = q.C.toArray := ⟨_, rfl⟩
 obtain ⟨es, hes⟩ : ∃ ds, ds = p.C.toArray := ⟨_, rfl⟩
 have Q0 : Hid (QB ((w.alloc (.cells ds 47)).alloc (.cells es 47)) w.heap.size q) := Hi ⟨hq.1, by rw [hds]; exact (Bk.new rfl _ _).more _⟩
 have P0 : Hid (QB ((w.alloc (.cells ds 47)).alloc (.cells es 47)) (w.heap.size + 1) p) := Hi ⟨hp.1, by rw [hes]; exact Bk.new (by simp) _ _⟩
 have X0 : Hid (Ex w ((w.alloc (.cells ds 47)).alloc (.cells es 47))) := Hi (Ex.trans (Ex.alloc _ _) (Ex.alloc _ _))
 have HQ := Hi (hq.ext X0.out)
 have HP := Hi (hp.ext X0.out)
 have E1 : Hid (p.client = q.client) := Hi (congrArg Qc.client he).symm
 have E2 : Hid (p.lim = q.lim) := Hi (congrArg Qc.lim he).symm
 have E3 : Hid (p.op = q.op) := Hi (congrArg Qc.op he).symm
 have E4 : Hid (reqB p.ct = reqB q.ct) := Hi (by rw [he])
 have E5 : Hid (p.sec.l.length ≤ 900000) := Hi (by have h := congrArg Qc.sec he; rw [show p.sec.l = q.sec.l from h.symm]; exact hm)
 have HM := Hi hm
 rw [show (Calls Try.prog 27 #[q.V, p.V] w) = (Calls Try.prog 27 #[.agg ds, .agg es] w) by rw [hds, hes]; rfl]
 clear hds hes hq hp he hm
 go_enter Try.func27, Try.ntmps27
 go_wp2_with fail
 generalize ((w.alloc (.cells ds 47)).alloc (.cells es 47)) = wr at *
 obtain ⟨g, hg⟩ : ∃ i, i = w.heap.size := ⟨_, rfl⟩
 rw [← hg] at Q0 P0 ⊢
 clear hg
 obtain ⟨S, hS⟩ : ∃ S, S = strL (reqB q.ct) := ⟨_, rfl⟩
 have HS := Hi hS
 clear hS
 obtain ⟨T, hT⟩ : ∃ T : List (Rw wr.heap.size), T = [.is (q.V), Rw.rowU (reqB q.ct), .is (.string S), .is (p.V), Rw.rowU (reqB q.ct), .is (.string S), .is (.bool true), .is (.bool true), .is (.pointer (some ⟨g, 55, none⟩)), .is (.int .i64 q.client), .is (.pointer (some ⟨g + 1, 55, none⟩)), .is (.int .i64 q.client), .is (.bool true), .is (.bool true), .is (.bool true), .is (.pointer (some ⟨g, 22, none⟩)), .is (.int .i64 q.lim), .is (.pointer (some ⟨g + 1, 22, none⟩)), .is (.int .i64 q.lim), .is (.bool true), .is (.bool true), .is (.bool true), .is (.pointer (some ⟨g, 0, none⟩)), .is (.int .i64 q.op), .is (.pointer (some ⟨g + 1, 0, none⟩)), .is (.int .i64 q.op), .is (.bool true), .is (.bool true), .is (.bool true)] := ⟨_, rfl⟩
 have HTY : T.map Rw.tys = ([[], [5], [], [], [5], [], [], [], [], [], [], [], [], [], [], [], [], [], [], [], [], [], [], [], [], [], [], [], []] : List (List Nat)) := by rw [hT]; rfl
 refine wp_region_gen (JW wr.heap.size wr [0] T ([[], [5], [], [], [5], [], [], [], [], [], [], [], [], [], [], [], [], [], [], [], [], [], [], [], [], [], [], [], []] : List (List Nat)) ([none, none, none, none, none, none, none, none, none, none, none, none, none, none, none, none, none, none, none, none, none, none, none, none, none, none, none, none, none] : List (Option Nat)) ([] : List (Nat × Nat)) 100000) (by kernel_rfl) (by kernel_rfl) (by kernel_rfl) (fitB_spec (by kernel_rfl)) (fun listed f h => JW.start (Nat.le_refl _) listed f h) ?_ ?_
 ·intro i o ho
  have hi : i < 29 := (Array.getElem?_eq_some_iff.1 ho).1
  have hi' : i = 0 ∨ i = 1 ∨ i = 2 ∨ i = 3 ∨ i = 4 ∨ i = 5 ∨ i = 6 ∨ i = 7 ∨ i = 8 ∨ i = 9 ∨ i = 10 ∨ i = 11 ∨ i = 12 ∨ i = 13 ∨ i = 14 ∨ i = 15 ∨ i = 16 ∨ i = 17 ∨ i = 18 ∨ i = 19 ∨ i = 20 ∨ i = 21 ∨ i = 22 ∨ i = 23 ∨ i = 24 ∨ i = 25 ∨ i = 26 ∨ i = 27 ∨ i = 28 := by omega
  clear hi
  rcases hi' with rfl | rfl | rfl | rfl | rfl | rfl | rfl | rfl | rfl | rfl | rfl | rfl | rfl | rfl | rfl | rfl | rfl | rfl | rfl | rfl | rfl | rfl | rfl | rfl | rfl | rfl | rfl | rfl | rfl
  all_goals (simp only [List.getElem?_toArray, List.getElem?_cons_zero, List.getElem?_cons_succ, Option.some.injEq] at ho; subst ho; intro listed f a w2 hJ hsz hls hun hdep hout hlat; first | (rw [if_pos (by rfl)]; intro K hK) | skip)
  ·have q2 := hout 2 ob
   exact ld_q (.tmp 2) g q rfl q2 (Q0.out.ext hJ.ext.below) (hK _ _ (hJ.pl HTY hls hT rfl))
  ·have q5 := hJ.iv hT (hdep ⟨0, .data⟩ (by simp) rfl) rfl rfl _ rfl _ rfl
   clear hsz hdep hout hlat
   go_simp
   refine (rreq_any q w2 (HQ.out.ext hJ.ext.below) HM.out).mono ?_
   rintro e w3 ⟨v, rfl, on, xn⟩
   exact hK _ _ (hJ.plain HTY (by rw [hls]; decide) xn (by rw [hT]; exact ⟨_, on⟩) nh)
  ·have dd6 := hdep ⟨1, .data⟩ (by simp) rfl
   have q6 := dd6.2 _ rfl _ rfl
   have h6 := hJ.vals 1 dd6.1 (fun c hc => by have hc : none = some c := hc; cases hc)
   rw [hT] at h6
   have h6 : (fun v w => ∃ b, ownU w b v (reqB q.ct)) (f 1) w2 := h6
   obtain ⟨b6, o6⟩ := h6
   clear dd6
   refine wp_conv (.tmp 6) rfl (f 1) (reqB q.ct) q6 (conv_row o6) (hK _ _ ?_)
   rw [← HS.out]
   exact hJ.pl HTY hls hT rfl
  ·have q3 := hout 3 ob
   exact ld_q (.tmp 3) (g + 1) p rfl q3 (P0.out.ext hJ.ext.below) (hK _ _ (hJ.pl HTY hls hT rfl))
  ·have q8 := hJ.iv hT (hdep ⟨3, .data⟩ (by simp) rfl) rfl rfl _ rfl _ rfl
   clear hsz hdep hout hlat
   go_simp
   refine (rreq_any p w2 (HP.out.ext hJ.ext.below) E5.out).mono ?_
   rintro e w3 ⟨v, rfl, on, xn⟩
   exact hK _ _ (hJ.plain HTY (by rw [hls]; decide) xn (by rw [hT]; rw [E4.out] at on; exact ⟨_, on⟩) nh)
  ·have dd9 := hdep ⟨4, .data⟩ (by simp) rfl
   have q9 := dd9.2 _ rfl _ rfl
   have h9 := hJ.vals 4 dd9.1 (fun c hc => by have hc : none = some c := hc; cases hc)
   rw [hT] at h9
   have h9 : (fun v w => ∃ b, ownU w b v (reqB q.ct)) (f 4) w2 := h9
   obtain ⟨b9, o9⟩ := h9
   clear dd9
   refine wp_conv (.tmp 9) rfl (f 4) (reqB q.ct) q9 (conv_row o9) (hK _ _ ?_)
   rw [← HS.out]
   exact hJ.pl HTY hls hT rfl
  ·have q7 := hJ.iw hT (hdep ⟨2, .data⟩ (by simp) rfl) rfl rfl _ rfl _ rfl
   have q10 := hJ.iw hT (hdep ⟨5, .data⟩ (by simp) rfl) rfl rfl _ rfl _ rfl
   refine wp_eql_s _ (.tmp 7) (.tmp 10) rfl S S q7 q10 true (beq_self_eq_true _) (hK _ _ ?_)
   exact hJ.pl HTY hls hT rfl
  ·have q11 := hJ.iw hT (hdep ⟨6, .data⟩ (by simp) rfl) rfl rfl _ rfl _ rfl
   exact wp_mw _ rfl q11 (hK _ _ (hJ.pl HTY hls hT rfl))
  ·have kg := hJ.iw hT (hdep ⟨7, .guard⟩ (by simp) rfl) rfl rfl _ rfl _ rfl
   rw [if_pos (wanted_of rfl rfl rfl kg)]
   clear kg
   intro K hK
   have q2 := hout 2 ob
   rw [gd9] at q2
   clear hsz hdep hout hlat
   go_simp
   exact hK _ _ (hJ.pa HTY hls hT)
  ·have kg := hJ.iw hT (hdep ⟨7, .guard⟩ (by simp) rfl) rfl rfl _ rfl _ rfl
   rw [if_pos (wanted_of rfl rfl rfl kg)]
   clear kg
   intro K hK
   have q13 := hJ.iv hT (hdep ⟨8, .data⟩ (by simp) rfl) rfl rfl _ rfl _ rfl
   have c6 := (Q0.out.ext hJ.ext.below).cells.2.2.2.1
   clear hsz hdep hout hlat
   go_simp
   exact hK _ _ (hJ.pl HTY hls hT rfl)
  ·have kg := hJ.iw hT (hdep ⟨7, .guard⟩ (by simp) rfl) rfl rfl _ rfl _ rfl
   rw [if_pos (wanted_of rfl rfl rfl kg)]
   clear kg
   intro K hK
   have q3 := hout 3 ob
   rw [gd9] at q3
   clear hsz hdep hout hlat
   go_simp
   exact hK _ _ (hJ.pa HTY hls hT)
  ·have kg := hJ.iw hT (hdep ⟨7, .guard⟩ (by simp) rfl) rfl rfl _ rfl _ rfl
   rw [if_pos (wanted_of rfl rfl rfl kg)]
   clear kg
   intro K hK
   have q15 := hJ.iv hT (hdep ⟨10, .data⟩ (by simp) rfl) rfl rfl _ rfl _ rfl
   have c6 := (P0.out.ext hJ.ext.below).cells.2.2.2.1
   rw [E1.out] at c6
   clear hsz hdep hout hlat
   go_simp
   exact hK _ _ (hJ.pl HTY hls hT rfl)
  ·have kg := hJ.iw hT (hdep ⟨7, .guard⟩ (by simp) rfl) rfl rfl _ rfl _ rfl
   rw [if_pos (wanted_of rfl rfl rfl kg)]
   clear kg
   intro K hK
   have q14 := hJ.iv hT (hdep ⟨9, .data⟩ (by simp) rfl) rfl rfl _ rfl _ rfl
   have q16 := hJ.iv hT (hdep ⟨11, .data⟩ (by simp) rfl) rfl rfl _ rfl _ rfl
   clear hsz hdep hout hlat
   go_simp
   exact hK _ _ (hJ.pa HTY hls hT)
  ·have q12 := hJ.iv hT (hdep ⟨7, .data⟩ (by simp) rfl) rfl rfl _ rfl _ rfl
   have q17 := hJ.iv hT (hdep ⟨12, .data⟩ (by simp) rfl) rfl rfl _ rfl _ rfl
   clear hsz hdep hout hlat
   go_simp
   exact hK _ _ (hJ.pa HTY hls hT)
  ·have q18 := hJ.iw hT (hdep ⟨13, .data⟩ (by simp) rfl) rfl rfl _ rfl _ rfl
   exact wp_mw _ rfl q18 (hK _ _ (hJ.pl HTY hls hT rfl))
  ·have kg := hJ.iw hT (hdep ⟨14, .guard⟩ (by simp) rfl) rfl rfl _ rfl _ rfl
   rw [if_pos (wanted_of rfl rfl rfl kg)]
   clear kg
   intro K hK
   have q2 := hout 2 ob
   rw [gd9] at q2
   clear hsz hdep hout hlat
   go_simp
   exact hK _ _ (hJ.pa HTY hls hT)
  ·have kg := hJ.iw hT (hdep ⟨14, .guard⟩ (by simp) rfl) rfl rfl _ rfl _ rfl
   rw [if_pos (wanted_of rfl rfl rfl kg)]
   clear kg
   intro K hK
   have q20 := hJ.iv hT (hdep ⟨15, .data⟩ (by simp) rfl) rfl rfl _ rfl _ rfl
   have c6 := (Q0.out.ext hJ.ext.below).cells.2.2.1
   clear hsz hdep hout hlat
   go_simp
   exact hK _ _ (hJ.pl HTY hls hT rfl)
  ·have kg := hJ.iw hT (hdep ⟨14, .guard⟩ (by simp) rfl) rfl rfl _ rfl _ rfl
   rw [if_pos (wanted_of rfl rfl rfl kg)]
   clear kg
   intro K hK
   have q3 := hout 3 ob
   rw [gd9] at q3
   clear hsz hdep hout hlat
   go_simp
   exact hK _ _ (hJ.pa HTY hls hT)
  ·have kg := hJ.iw hT (hdep ⟨14, .guard⟩ (by simp) rfl) rfl rfl _ rfl _ rfl
   rw [if_pos (wanted_of rfl rfl rfl kg)]
   clear kg
   intro K hK
   have q22 := hJ.iv hT (hdep ⟨17, .data⟩ (by simp) rfl) rfl rfl _ rfl _ rfl
   have c6 := (P0.out.ext hJ.ext.below).cells.2.2.1
   rw [E2.out] at c6
   clear hsz hdep hout hlat
   go_simp
   exact hK _ _ (hJ.pl HTY hls hT rfl)
  ·have kg := hJ.iw hT (hdep ⟨14, .guard⟩ (by simp) rfl) rfl rfl _ rfl _ rfl
   rw [if_pos (wanted_of rfl rfl rfl kg)]
   clear kg
   intro K hK
   have q21 := hJ.iv hT (hdep ⟨16, .data⟩ (by simp) rfl) rfl rfl _ rfl _ rfl
   have q23 := hJ.iv hT (hdep ⟨18, .data⟩ (by simp) rfl) rfl rfl _ rfl _ rfl
   clear hsz hdep hout hlat
   go_simp
   exact hK _ _ (hJ.pa HTY hls hT)
  ·have q19 := hJ.iv hT (hdep ⟨14, .data⟩ (by simp) rfl) rfl rfl _ rfl _ rfl
   have q24 := hJ.iv hT (hdep ⟨19, .data⟩ (by simp) rfl) rfl rfl _ rfl _ rfl
   clear hsz hdep hout hlat
   go_simp
   exact hK _ _ (hJ.pa HTY hls hT)
  ·have q25 := hJ.iw hT (hdep ⟨20, .data⟩ (by simp) rfl) rfl rfl _ rfl _ rfl
   exact wp_mw _ rfl q25 (hK _ _ (hJ.pl HTY hls hT rfl))
  ·have kg := hJ.iw hT (hdep ⟨21, .guard⟩ (by simp) rfl) rfl rfl _ rfl _ rfl
   rw [if_pos (wanted_of rfl rfl rfl kg)]
   clear kg
   intro K hK
   have q2 := hout 2 ob
   rw [gd9] at q2
   clear hsz hdep hout hlat
   go_simp
   exact hK _ _ (hJ.pa HTY hls hT)
  ·have kg := hJ.iw hT (hdep ⟨21, .guard⟩ (by simp) rfl) rfl rfl _ rfl _ rfl
   rw [if_pos (wanted_of rfl rfl rfl kg)]
   clear kg
   intro K hK
   have q27 := hJ.iv hT (hdep ⟨22, .data⟩ (by simp) rfl) rfl rfl _ rfl _ rfl
   have c6 := (Q0.out.ext hJ.ext.below).cells.1
   clear hsz hdep hout hlat
   go_simp
   exact hK _ _ (hJ.pl HTY hls hT rfl)
  ·have kg := hJ.iw hT (hdep ⟨21, .guard⟩ (by simp) rfl) rfl rfl _ rfl _ rfl
   rw [if_pos (wanted_of rfl rfl rfl kg)]
   clear kg
   intro K hK
   have q3 := hout 3 ob
   rw [gd9] at q3
   clear hsz hdep hout hlat
   go_simp
   exact hK _ _ (hJ.pa HTY hls hT)
  ·have kg := hJ.iw hT (hdep ⟨21, .guard⟩ (by simp) rfl) rfl rfl _ rfl _ rfl
   rw [if_pos (wanted_of rfl rfl rfl kg)]
   clear kg
   intro K hK
   have q29 := hJ.iv hT (hdep ⟨24, .data⟩ (by simp) rfl) rfl rfl _ rfl _ rfl
   have c6 := (P0.out.ext hJ.ext.below).cells.1
   rw [E3.out] at c6
   clear hsz hdep hout hlat
   go_simp
   exact hK _ _ (hJ.pl HTY hls hT rfl)
  ·have kg := hJ.iw hT (hdep ⟨21, .guard⟩ (by simp) rfl) rfl rfl _ rfl _ rfl
   rw [if_pos (wanted_of rfl rfl rfl kg)]
   clear kg
   intro K hK
   have q28 := hJ.iv hT (hdep ⟨23, .data⟩ (by simp) rfl) rfl rfl _ rfl _ rfl
   have q30 := hJ.iv hT (hdep ⟨25, .data⟩ (by simp) rfl) rfl rfl _ rfl _ rfl
   clear hsz hdep hout hlat
   go_simp
   exact hK _ _ (hJ.pa HTY hls hT)
  ·have q26 := hJ.iv hT (hdep ⟨21, .data⟩ (by simp) rfl) rfl rfl _ rfl _ rfl
   have q31 := hJ.iv hT (hdep ⟨26, .data⟩ (by simp) rfl) rfl rfl _ rfl _ rfl
   clear hsz hdep hout hlat
   go_simp
   exact hK _ _ (hJ.pa HTY hls hT)
  have q32 := hJ.iv hT (hdep ⟨27, .data⟩ (by simp) rfl) rfl rfl _ rfl _ rfl
  clear hsz hdep hout hlat
  go_simp
  exact hK _ _ (hJ.pa HTY hls hT)
 intro listed f w2 hall hJ
 have f28 : f 28 = .bool true := by
  have h := hJ.vals 28 (hall 28 (by simp)) (fun c hc => by have hc : none = some c := hc; cases hc)
  rw [hT] at h; exact h
 have xk := hJ.ext
 simp only [putAll, Act.put, List.setIfInBounds_toArray, List.set_cons_zero, List.set_cons_succ, Nat.zero_add, Nat.reduceAdd]
 rw [f28]
 clear f28
 clear hJ hall hT HTY
 generalize f 0 = y0
 generalize f 1 = y1
 generalize f 2 = y2
 generalize f 3 = y3
 generalize f 4 = y4
 generalize f 5 = y5
 generalize f 6 = y6
 generalize f 7 = y7
 generalize f 8 = y8
 generalize f 9 = y9
 generalize f 10 = y10
 generalize f 11 = y11
 generalize f 12 = y12
 generalize f 13 = y13
 generalize f 14 = y14
 generalize f 15 = y15
 generalize f 16 = y16
 generalize f 17 = y17
 generalize f 18 = y18
 generalize f 19 = y19
 generalize f 20 = y20
 generalize f 21 = y21
 generalize f 22 = y22
 generalize f 23 = y23
 generalize f 24 = y24
 generalize f 25 = y25
 generalize f 26 = y26
 generalize f 27 = y27
 have XE := Hi (Ex.trans X0.out xk.below)
 clear xk
 go_wp2_with fail
 go_ret
 exact ⟨rfl, XE.out⟩
theorem reps_any (q p : Rt) (he : q.ct = p.ct) (w : World) (hq : RI w q) (hp : RI w p) : Calls Try.prog 24 #[q.V, p.V] w fun e w' => e = .returned (.bool true) ∧ Ex w w' := by
 obtain ⟨ds, hds⟩ : ∃ ds, ds = q.C.toArray := ⟨_, rfl⟩
 obtain ⟨es, hes⟩ : ∃ ds, ds = p.C.toArray := ⟨_, rfl⟩
 have Q0 : Hid (RB ((w.alloc (.cells ds 29)).alloc (.cells es 29)) w.heap.size q) := Hi ⟨hq.1, by rw [hds]; exact (Bk.new rfl _ _).more _⟩
 have P0 : Hid (RB ((w.alloc (.cells ds 29)).alloc (.cells es 29)) (w.heap.size + 1) p) := Hi ⟨hp.1, by rw [hes]; exact Bk.new (by simp) _ _⟩
 have X0 : Hid (Ex w ((w.alloc (.cells ds 29)).alloc (.cells es 29))) := Hi (Ex.trans (Ex.alloc _ _) (Ex.alloc _ _))
 have HQ := Hi (hq.ext X0.out)
 have HP := Hi (hp.ext X0.out)
 have E1 := Hi (congrArg Rc.why he).symm
 have E2 := Hi (congrArg Rc.id he).symm
 have E3 := Hi (congrArg Rc.gen he).symm
 have E4 := Hi (congrArg Rc.left he).symm
 have E5 := Hi (congrArg Rc.sec he).symm
 have E6 := Hi (congrArg Rc.client he).symm
 have E7 := Hi (congrArg Rc.num he).symm
 rw [show (Calls Try.prog 24 #[q.V, p.V] w) = (Calls Try.prog 24 #[.agg ds, .agg es] w) by rw [hds, hes]; rfl]
 clear hds hes hq hp he
 go_enter Try.func24, Try.ntmps24
 go_wp2_with ((with_reducible refine so4 [24] ?_ ?_); (focus rfl))
 (with_reducible refine ⟨?_⟩)
 change wpList _ _ _ _ _ ((w.alloc (.cells ds 29)).alloc (.cells es 29))
 generalize ((w.alloc (.cells ds 29)).alloc (.cells es 29)) = wr at *
 obtain ⟨g, hg⟩ : ∃ i, i = w.heap.size := ⟨_, rfl⟩
 rw [← hg] at Q0 P0 ⊢
 clear hg
 obtain ⟨S, hS⟩ : ∃ S, S = strL q.sec.l := ⟨_, rfl⟩
 obtain ⟨m, hm⟩ : ∃ m, m = q.sec.l.length := ⟨_, rfl⟩
 have hpl : p.sec.l = q.sec.l := E5.out
 have v1 : q.sec.V = .slice q.sec.ad m q.sec.cap := by unfold Pt.V; rw [hm]
 have v2 : p.sec.V = .slice p.sec.ad m p.sec.cap := by unfold Pt.V; rw [hpl, hm]
 have cv1 := conv_V q.sec wr HQ.out.2
 have cv2 := conv_V p.sec wr HP.out.2
 rw [hpl] at cv2
 rw [v1, ← hS] at cv1
 rw [v2, ← hS] at cv2
 obtain ⟨c0, c5, c6, c7, c8, c9⟩ := Q0.out.cells
 obtain ⟨d0, d5, d6, d7, d8, d9⟩ := P0.out.cells
 rw [show p.why = q.why from E1.out] at d0
 rw [show p.gen = q.gen from E3.out] at d5
 rw [show p.left = q.left from E4.out] at d6
 rw [v1] at c7
 rw [v2] at d7
 rw [show p.client = q.client from E6.out] at d8
 rw [show p.num = q.num from E7.out] at d9
 clear hS hm hpl v1 v2
 go_wp2_with ((with_reducible refine so0 ?_ ?_); (focus rfl))
 refine at9 (by go_simp) fun K0 hK => ld_rid _ g q rfl rfl Q0.out (hK _ _ ?_)
 clear hK
 go_wp2_with ((with_reducible refine so0 ?_ ?_); (focus rfl))
 refine at9 (by go_simp) fun K0 hK => ld_rid _ (g + 1) p rfl rfl P0.out (hK _ _ ?_)
 clear hK
 go_wp2_with ((with_reducible refine so0 ?_ ?_); (focus rfl))
 refine at9 (by go_simp) fun K0 hK => wp_eql_id _ _ _ rfl q.id p.id Q0.out.1.idN P0.out.1.idN rfl rfl (hK _ _ ?_)
 clear hK
 rw [decide_eq_true (show q.id = p.id from E2.out.symm)]
 go_wp2_with fail
 go_ret
 exact ⟨rfl, X0.out⟩
end Go.Proofs.Ytopamplmpfndlaa.Cl
