/- Vd, Ve, Vf -/
import Derived.Test.YtmjfnpmnhehnkaaQac
set_option maxRecDepth 100000
set_option maxHeartbeats 16000000
namespace Go.Proofs.Ytmjfnpmnhehnkaa
open Go.RowKit
section
variable {o : Oper} {a : Act} {w : World} {K : Act → World → Prop} {Q : Exit → Act → World → Prop}
theorem wp_eql_u64 (t' : TypeId) (x y : Operand) (ho : o.op = .binOp .eql 24 x y t') (m n : Int) (hx : a.eval x = .int .u64 m) (hy : a.eval y = .int .u64 n) (h : K (a.put o.dst (.bool (decide (m = n)))) w) : o.wp Try.prog a w K Q := by
 unfold Oper.wp
 obtain ⟨ev, hev⟩ : ∃ ev, ev = a.eval := ⟨_, rfl⟩
 rw [← hev] at hx hy ⊢
 clear hev
 unfold execOp
 simp only [ho]
 simp [hx, hy, go_sem]
 go_simp
 exact h
theorem wp_eql_i64 (t' : TypeId) (x y : Operand) (ho : o.op = .binOp .eql 3 x y t') (m n : Int) (hx : a.eval x = .int .i64 m) (hy : a.eval y = .int .i64 n) (h : K (a.put o.dst (.bool (decide (m = n)))) w) : o.wp Try.prog a w K Q := by
 unfold Oper.wp
 obtain ⟨ev, hev⟩ : ∃ ev, ev = a.eval := ⟨_, rfl⟩
 rw [← hev] at hx hy ⊢
 clear hev
 unfold execOp
 simp only [ho]
 simp [hx, hy, go_sem]
 go_simp
 exact h
theorem wp_eql_b (t' : TypeId) (x y : Operand) (ho : o.op = .binOp .eql 4 x y t') (m n : Bool) (hx : a.eval x = .bool m) (hy : a.eval y = .bool n) (h : K (a.put o.dst (.bool (decide (m = n)))) w) : o.wp Try.prog a w K Q := by
 have h' : K (a.put o.dst (.bool (m == n))) w := by
  have e : (m == n) = decide (m = n) := by cases m <;> cases n <;> rfl
  rw [e]; exact h
 unfold Oper.wp
 obtain ⟨ev, hev⟩ : ∃ ev, ev = a.eval := ⟨_, rfl⟩
 rw [← hev] at hx hy ⊢
 clear hev
 unfold execOp
 simp only [ho]
 simp [hx, hy, go_sem]
 go_simp
 exact h'
theorem wp_eql_s (t' : TypeId) (x y : Operand) (ho : o.op = .binOp .eql 9 x y t') (m n : ByteArray) (hx : a.eval x = .string m) (hy : a.eval y = .string n) (z : Bool) (hz : (m.toList == n.toList) = z) (h : K (a.put o.dst (.bool z)) w) : o.wp Try.prog a w K Q := by
 unfold Oper.wp
 obtain ⟨ev, hev⟩ : ∃ ev, ev = a.eval := ⟨_, rfl⟩
 rw [← hev] at hx hy ⊢
 clear hev
 unfold execOp
 simp only [ho]
 subst hz
 simp [hx, hy, go_sem]
 go_simp
 exact h
end
structure Vc where
 id : List UInt8
 gen : Int
 pin : List UInt8
 sec : List UInt8
 lim : Int
 used : Int
 own : List UInt8
 gone : Bool
 wiped : Bool
def Vt.ct (x : Vt) : Vc := ⟨x.id, x.gen, x.pin, x.sec.l, x.lim, x.used, x.own, x.gone, x.wiped⟩
theorem Vc.eq_iff (a b : Vc) : a = b ↔ (a.id = b.id ∧ a.gen = b.gen ∧ a.pin = b.pin ∧ a.sec = b.sec ∧ a.lim = b.lim ∧ a.used = b.used ∧ a.own = b.own ∧ a.gone = b.gone ∧ a.wiped = b.wiped) := by
 cases a; cases b; simp
instance : DecidableEq Vc := fun a b => decidable_of_iff _ (Vc.eq_iff a b).symm
structure VI (w : World) (x : Vt) : Prop where
 ok : x.Ok
 sec : x.sec.In w w.heap.size
theorem VI.ext {w w' : World} {x : Vt} (h : VI w x) (k : Ex w w') : VI w' x := ⟨h.ok, h.sec.ext k⟩
theorem vsame_any (a b : Vt) (w : World) (ha : VI w a) (hb : VI w b) : Calls Try.prog 66 #[a.V, b.V] w fun e w' => e = .returned (.bool (decide (a.ct = b.ct))) ∧ Ex w w' := by
 obtain ⟨R, hR⟩ : ∃ R, R = decide (a.ct = b.ct) := ⟨_, rfl⟩
 have HD : Hid (R = true ↔ (a.id = b.id ∧ a.gen = b.gen ∧ a.pin = b.pin ∧ a.sec.l = b.sec.l ∧ a.lim = b.lim ∧ a.used = b.used ∧ a.own = b.own ∧ a.gone = b.gone ∧ a.wiped = b.wiped)) := Hi (by rw [hR, decide_eq_true_iff, Vc.eq_iff]; exact Iff.rfl)
 rw [← hR]
 obtain ⟨cs, hcs⟩ : ∃ cs, cs = a.C.toArray := ⟨_, rfl⟩
 obtain ⟨ds, hds⟩ : ∃ cs, cs = b.C.toArray := ⟨_, rfl⟩
 have A0 : Hid (VB ((w.alloc (.cells cs 36)).alloc (.cells ds 36)) w.heap.size a) := Hi ⟨ha.ok, by rw [hcs]; exact (Bk.new rfl _ _).more _⟩
 have B0 : Hid (VB ((w.alloc (.cells cs 36)).alloc (.cells ds 36)) (w.heap.size + 1) b) := Hi ⟨hb.ok, by rw [hds]; exact Bk.new (by simp) _ _⟩
 have BW : Hid (Ex w ((w.alloc (.cells cs 36)).alloc (.cells ds 36))) := Hi (Ex.trans (Ex.alloc w _) (Ex.alloc _ _))
 have AI := Hi (ha.ext BW.out)
 have BI := Hi (hb.ext BW.out)
 rw [show (Calls Try.prog 66 #[a.V, b.V] w) = (Calls Try.prog 66 #[.agg cs, .agg ds] w) by rw [hcs, hds]; rfl]
 clear hcs hds ha hb hR
 go_enter Try.func66, Try.ntmps66
 go_wp2_with ((with_reducible refine so3 [2000] ?_ ?_); (focus rfl))
 generalize hw1 : (w.alloc (.cells cs 36)).alloc (.cells ds 36) = w1 at *
 clear hw1
 obtain ⟨B, hB⟩ : ∃ B, B = w.heap.size := ⟨_, rfl⟩
 rw [← hB] at A0 B0 ⊢
 clear hB
 obtain ⟨a4, a21, a22, a23, a40, a41⟩ := A0.out.cells
 obtain ⟨b4, b21, b22, b23, b40, b41⟩ := B0.out.cells
 have CS := Hi (same_any a.sec b.sec w1 AI.out.sec BI.out.sec)
 unfold Pt.V at a21 b21 CS
 refine at9 (by go_simp) fun K0 hK => ld_vid _ _ a rfl rfl A0.out (hK _ _ ?_)
 clear hK
 go_wp2_with ((with_reducible refine so3 [2000] ?_ ?_); (focus rfl))
 refine at9 (by go_simp) fun K0 hK => ld_vid _ _ b rfl rfl B0.out (hK _ _ ?_)
 clear hK
 go_wp2_with ((with_reducible refine so3 [2000] ?_ ?_); (focus rfl))
 refine at9 (by go_simp) fun K0 hK => wp_eql_id _ _ _ rfl a.id b.id A0.out.1.idN B0.out.1.idN rfl rfl (hK _ _ ?_)
 clear hK
 by_cases hid : a.id = b.id
 case neg =>
  rw [decide_eq_false hid]
  go_wp2_with fail
  go_ret
  have e : R = false := by
   cases hR : R with
   | false => rfl
   | true => exact absurd (HD.out.1 hR).1 hid
  exact ⟨congrArg (fun b => Ending.returned (.bool b)) e.symm, BW.out⟩
 rw [decide_eq_true hid]
 have Hid := Hi hid
 clear hid
 go_wp2_with ((with_reducible refine so3 [2000] ?_ ?_); (focus rfl))
 refine at9 (by go_simp) fun K0 hK => wp_eql_u64 _ _ _ rfl a.gen b.gen rfl rfl (hK _ _ ?_)
 clear hK
 by_cases hgen : a.gen = b.gen
 case neg =>
  rw [decide_eq_false hgen]
  go_wp2_with fail
  go_ret
  have e : R = false := by
   cases hR : R with
   | false => rfl
   | true => exact absurd (HD.out.1 hR).2.1 hgen
  exact ⟨congrArg (fun b => Ending.returned (.bool b)) e.symm, BW.out⟩
 rw [decide_eq_true hgen]
 have Hgen := Hi hgen
 clear hgen
 go_wp2_with ((with_reducible refine so3 [2000] ?_ ?_); (focus rfl))
 refine at9 (by go_simp) fun K0 hK => ld_vpin _ _ a rfl rfl A0.out (hK _ _ ?_)
 clear hK
 go_wp2_with ((with_reducible refine so3 [2000] ?_ ?_); (focus rfl))
 refine at9 (by go_simp) fun K0 hK => ld_vpin _ _ b rfl rfl B0.out (hK _ _ ?_)
 clear hK
 go_wp2_with ((with_reducible refine so3 [2000] ?_ ?_); (focus rfl))
 refine at9 (by go_simp) fun K0 hK => wp_eql_dig _ _ _ rfl a.pin b.pin A0.out.1.pinN B0.out.1.pinN rfl rfl (hK _ _ ?_)
 clear hK
 by_cases hpin : a.pin = b.pin
 case neg =>
  rw [decide_eq_false hpin]
  go_wp2_with fail
  go_ret
  have e : R = false := by
   cases hR : R with
   | false => rfl
   | true => exact absurd (HD.out.1 hR).2.2.1 hpin
  exact ⟨congrArg (fun b => Ending.returned (.bool b)) e.symm, BW.out⟩
 rw [decide_eq_true hpin]
 have Hpin := Hi hpin
 clear hpin
 go_wp2_with ((with_reducible refine so3 [2000] ?_ ?_); (focus rfl))
 refine at9 (by go_simp) fun K0 hK => ld_vown _ _ a rfl rfl A0.out (hK _ _ ?_)
 clear hK
 go_wp2_with ((with_reducible refine so3 [2000] ?_ ?_); (focus rfl))
 refine at9 (by go_simp) fun K0 hK => ld_vown _ _ b rfl rfl B0.out (hK _ _ ?_)
 clear hK
 go_wp2_with ((with_reducible refine so3 [2000] ?_ ?_); (focus rfl))
 refine at9 (by go_simp) fun K0 hK => wp_eql_dig _ _ _ rfl a.own b.own A0.out.1.ownN B0.out.1.ownN rfl rfl (hK _ _ ?_)
 clear hK
 by_cases hown : a.own = b.own
 case neg =>
  rw [decide_eq_false hown]
  go_wp2_with fail
  go_ret
  have e : R = false := by
   cases hR : R with
   | false => rfl
   | true => exact absurd (HD.out.1 hR).2.2.2.2.2.2.1 hown
  exact ⟨congrArg (fun b => Ending.returned (.bool b)) e.symm, BW.out⟩
 rw [decide_eq_true hown]
 have Hown := Hi hown
 clear hown
 go_wp2_with ((with_reducible refine so3 [2000] ?_ ?_); (focus rfl))
 refine at9 (by go_simp) fun K0 hK => wp_eql_i64 _ _ _ rfl a.lim b.lim rfl rfl (hK _ _ ?_)
 clear hK
 by_cases hlim : a.lim = b.lim
 case neg =>
  rw [decide_eq_false hlim]
  go_wp2_with fail
  go_ret
  have e : R = false := by
   cases hR : R with
   | false => rfl
   | true => exact absurd (HD.out.1 hR).2.2.2.2.1 hlim
  exact ⟨congrArg (fun b => Ending.returned (.bool b)) e.symm, BW.out⟩
 rw [decide_eq_true hlim]
 have Hlim := Hi hlim
 clear hlim
 go_wp2_with ((with_reducible refine so3 [2000] ?_ ?_); (focus rfl))
 refine at9 (by go_simp) fun K0 hK => wp_eql_i64 _ _ _ rfl a.used b.used rfl rfl (hK _ _ ?_)
 clear hK
 by_cases hused : a.used = b.used
 case neg =>
  rw [decide_eq_false hused]
  go_wp2_with fail
  go_ret
  have e : R = false := by
   cases hR : R with
   | false => rfl
   | true => exact absurd (HD.out.1 hR).2.2.2.2.2.1 hused
  exact ⟨congrArg (fun b => Ending.returned (.bool b)) e.symm, BW.out⟩
 rw [decide_eq_true hused]
 have Hused := Hi hused
 clear hused
 go_wp2_with ((with_reducible refine so3 [2000] ?_ ?_); (focus rfl))
 refine at9 (by go_simp) fun K0 hK => wp_eql_b _ _ _ rfl a.gone b.gone rfl rfl (hK _ _ ?_)
 clear hK
 by_cases hgone : a.gone = b.gone
 case neg =>
  rw [decide_eq_false hgone]
  go_wp2_with fail
  go_ret
  have e : R = false := by
   cases hR : R with
   | false => rfl
   | true => exact absurd (HD.out.1 hR).2.2.2.2.2.2.2.1 hgone
  exact ⟨congrArg (fun b => Ending.returned (.bool b)) e.symm, BW.out⟩
 rw [decide_eq_true hgone]
 have Hgone := Hi hgone
 clear hgone
 go_wp2_with ((with_reducible refine so3 [2000] ?_ ?_); (focus rfl))
 refine at9 (by go_simp) fun K0 hK => wp_eql_b _ _ _ rfl a.wiped b.wiped rfl rfl (hK _ _ ?_)
 clear hK
 by_cases hwiped : a.wiped = b.wiped
 case neg =>
  rw [decide_eq_false hwiped]
  go_wp2_with fail
  go_ret
  have e : R = false := by
   cases hR : R with
   | false => rfl
   | true => exact absurd (HD.out.1 hR).2.2.2.2.2.2.2.2 hwiped
  exact ⟨congrArg (fun b => Ending.returned (.bool b)) e.symm, BW.out⟩
 rw [decide_eq_true hwiped]
 have Hwiped := Hi hwiped
 clear hwiped
 go_wp2_with ((with_reducible refine so3 [2000] ?_ ?_); (focus rfl))
 refine CS.out.mono ?_
 rintro e w2 ⟨rfl, rfl⟩
 clear CS
 by_cases hsec : a.sec.l = b.sec.l
 case neg =>
  rw [decide_eq_false hsec]
  go_wp2_with fail
  go_ret
  have e : R = false := by
   cases hR : R with
   | false => rfl
   | true => exact absurd (HD.out.1 hR).2.2.2.1 hsec
  exact ⟨congrArg (fun b => Ending.returned (.bool b)) e.symm, BW.out⟩
 rw [decide_eq_true hsec]
 have Hsec := Hi hsec
 clear hsec
 go_wp2_with fail
 go_ret
 have e : R = true := HD.out.2 ⟨Hid.out, Hgen.out, Hpin.out, Hsec.out, Hlim.out, Hused.out, Hown.out, Hgone.out, Hwiped.out⟩
 exact ⟨congrArg (fun b => Ending.returned (.bool b)) e.symm, BW.out⟩
theorem rsame_any (a b : Vt) (w : World) (ha : VI w a) (hb : VI w b) : Calls Try.prog 35 #[a.V, b.V] w fun e w' => e = .returned (.bool (decide (a.ct = b.ct))) ∧ Ex w w' := by
 obtain ⟨R, hR⟩ : ∃ R, R = decide (a.ct = b.ct) := ⟨_, rfl⟩
 have HD : Hid (R = true ↔ (a.id = b.id ∧ a.gen = b.gen ∧ a.pin = b.pin ∧ a.sec.l = b.sec.l ∧ a.lim = b.lim ∧ a.used = b.used ∧ a.own = b.own ∧ a.gone = b.gone ∧ a.wiped = b.wiped)) := Hi (by rw [hR, decide_eq_true_iff, Vc.eq_iff]; exact Iff.rfl)
 rw [← hR]
 obtain ⟨cs, hcs⟩ : ∃ cs, cs = a.C.toArray := ⟨_, rfl⟩
 obtain ⟨ds, hds⟩ : ∃ cs, cs = b.C.toArray := ⟨_, rfl⟩
 have A0 : Hid (VB ((w.alloc (.cells cs 36)).alloc (.cells ds 36)) w.heap.size a) := Hi ⟨ha.ok, by rw [hcs]; exact (Bk.new rfl _ _).more _⟩
 have B0 : Hid (VB ((w.alloc (.cells cs 36)).alloc (.cells ds 36)) (w.heap.size + 1) b) := Hi ⟨hb.ok, by rw [hds]; exact Bk.new (by simp) _ _⟩
 have BW : Hid (Ex w ((w.alloc (.cells cs 36)).alloc (.cells ds 36))) := Hi (Ex.trans (Ex.alloc w _) (Ex.alloc _ _))
 have AI := Hi (ha.ext BW.out)
 have BI := Hi (hb.ext BW.out)
 rw [show (Calls Try.prog 35 #[a.V, b.V] w) = (Calls Try.prog 35 #[.agg cs, .agg ds] w) by rw [hcs, hds]; rfl]
 clear hcs hds ha hb hR
 go_enter Try.func35, Try.ntmps35
 go_wp2_with ((with_reducible refine so3 [2000] ?_ ?_); (focus rfl))
 generalize hw1 : (w.alloc (.cells cs 36)).alloc (.cells ds 36) = w1 at *
 clear hw1
 obtain ⟨B, hB⟩ : ∃ B, B = w.heap.size := ⟨_, rfl⟩
 rw [← hB] at A0 B0 ⊢
 clear hB
 obtain ⟨a4, a21, a22, a23, a40, a41⟩ := A0.out.cells
 obtain ⟨b4, b21, b22, b23, b40, b41⟩ := B0.out.cells
 have c1 := pt_conv a.sec w1 AI.out.sec
 have c2 := pt_conv b.sec w1 BI.out.sec
 have HS := Hi (strL_beq a.sec.l b.sec.l)
 generalize strL a.sec.l = sa at *
 generalize strL b.sec.l = sb at *
 unfold Pt.V at a21 b21
 refine at9 (by go_simp) fun K0 hK => ld_vid _ _ a rfl rfl A0.out (hK _ _ ?_)
 clear hK
 go_wp2_with ((with_reducible refine so3 [2000] ?_ ?_); (focus rfl))
 refine at9 (by go_simp) fun K0 hK => ld_vid _ _ b rfl rfl B0.out (hK _ _ ?_)
 clear hK
 go_wp2_with ((with_reducible refine so3 [2000] ?_ ?_); (focus rfl))
 refine at9 (by go_simp) fun K0 hK => wp_eql_id _ _ _ rfl a.id b.id A0.out.1.idN B0.out.1.idN rfl rfl (hK _ _ ?_)
 clear hK
 by_cases hid : a.id = b.id
 case neg =>
  rw [decide_eq_false hid]
  go_wp2_with fail
  go_ret
  have e : R = false := by
   cases hR : R with
   | false => rfl
   | true => exact absurd (HD.out.1 hR).1 hid
  exact ⟨congrArg (fun b => Ending.returned (.bool b)) e.symm, BW.out⟩
 rw [decide_eq_true hid]
 have Hid := Hi hid
 clear hid
 go_wp2_with ((with_reducible refine so3 [2000] ?_ ?_); (focus rfl))
 refine at9 (by go_simp) fun K0 hK => wp_eql_u64 _ _ _ rfl a.gen b.gen rfl rfl (hK _ _ ?_)
 clear hK
 by_cases hgen : a.gen = b.gen
 case neg =>
  rw [decide_eq_false hgen]
  go_wp2_with fail
  go_ret
  have e : R = false := by
   cases hR : R with
   | false => rfl
   | true => exact absurd (HD.out.1 hR).2.1 hgen
  exact ⟨congrArg (fun b => Ending.returned (.bool b)) e.symm, BW.out⟩
 rw [decide_eq_true hgen]
 have Hgen := Hi hgen
 clear hgen
 go_wp2_with ((with_reducible refine so3 [2000] ?_ ?_); (focus rfl))
 refine at9 (by go_simp) fun K0 hK => ld_vpin _ _ a rfl rfl A0.out (hK _ _ ?_)
 clear hK
 go_wp2_with ((with_reducible refine so3 [2000] ?_ ?_); (focus rfl))
 refine at9 (by go_simp) fun K0 hK => ld_vpin _ _ b rfl rfl B0.out (hK _ _ ?_)
 clear hK
 go_wp2_with ((with_reducible refine so3 [2000] ?_ ?_); (focus rfl))
 refine at9 (by go_simp) fun K0 hK => wp_eql_dig _ _ _ rfl a.pin b.pin A0.out.1.pinN B0.out.1.pinN rfl rfl (hK _ _ ?_)
 clear hK
 by_cases hpin : a.pin = b.pin
 case neg =>
  rw [decide_eq_false hpin]
  go_wp2_with fail
  go_ret
  have e : R = false := by
   cases hR : R with
   | false => rfl
   | true => exact absurd (HD.out.1 hR).2.2.1 hpin
  exact ⟨congrArg (fun b => Ending.returned (.bool b)) e.symm, BW.out⟩
 rw [decide_eq_true hpin]
 have Hpin := Hi hpin
 clear hpin
 go_wp2_with ((with_reducible refine so3 [2000] ?_ ?_); (focus rfl))
 refine at9 (by go_simp) fun K0 hK => wp_eql_s _ _ _ rfl sa sb rfl rfl _ HS.out (hK _ _ ?_)
 clear hK
 clear HS
 by_cases hsec : a.sec.l = b.sec.l
 case neg =>
  rw [decide_eq_false hsec]
  go_wp2_with fail
  go_ret
  have e : R = false := by
   cases hR : R with
   | false => rfl
   | true => exact absurd (HD.out.1 hR).2.2.2.1 hsec
  exact ⟨congrArg (fun b => Ending.returned (.bool b)) e.symm, BW.out⟩
 rw [decide_eq_true hsec]
 have Hsec := Hi hsec
 clear hsec
 go_wp2_with ((with_reducible refine so3 [2000] ?_ ?_); (focus rfl))
 refine at9 (by go_simp) fun K0 hK => wp_eql_i64 _ _ _ rfl a.lim b.lim rfl rfl (hK _ _ ?_)
 clear hK
 by_cases hlim : a.lim = b.lim
 case neg =>
  rw [decide_eq_false hlim]
  go_wp2_with fail
  go_ret
  have e : R = false := by
   cases hR : R with
   | false => rfl
   | true => exact absurd (HD.out.1 hR).2.2.2.2.1 hlim
  exact ⟨congrArg (fun b => Ending.returned (.bool b)) e.symm, BW.out⟩
 rw [decide_eq_true hlim]
 have Hlim := Hi hlim
 clear hlim
 go_wp2_with ((with_reducible refine so3 [2000] ?_ ?_); (focus rfl))
 refine at9 (by go_simp) fun K0 hK => wp_eql_i64 _ _ _ rfl a.used b.used rfl rfl (hK _ _ ?_)
 clear hK
 by_cases hused : a.used = b.used
 case neg =>
  rw [decide_eq_false hused]
  go_wp2_with fail
  go_ret
  have e : R = false := by
   cases hR : R with
   | false => rfl
   | true => exact absurd (HD.out.1 hR).2.2.2.2.2.1 hused
  exact ⟨congrArg (fun b => Ending.returned (.bool b)) e.symm, BW.out⟩
 rw [decide_eq_true hused]
 have Hused := Hi hused
 clear hused
 go_wp2_with ((with_reducible refine so3 [2000] ?_ ?_); (focus rfl))
 refine at9 (by go_simp) fun K0 hK => ld_vown _ _ a rfl rfl A0.out (hK _ _ ?_)
 clear hK
 go_wp2_with ((with_reducible refine so3 [2000] ?_ ?_); (focus rfl))
 refine at9 (by go_simp) fun K0 hK => ld_vown _ _ b rfl rfl B0.out (hK _ _ ?_)
 clear hK
 go_wp2_with ((with_reducible refine so3 [2000] ?_ ?_); (focus rfl))
 refine at9 (by go_simp) fun K0 hK => wp_eql_dig _ _ _ rfl a.own b.own A0.out.1.ownN B0.out.1.ownN rfl rfl (hK _ _ ?_)
 clear hK
 by_cases hown : a.own = b.own
 case neg =>
  rw [decide_eq_false hown]
  go_wp2_with fail
  go_ret
  have e : R = false := by
   cases hR : R with
   | false => rfl
   | true => exact absurd (HD.out.1 hR).2.2.2.2.2.2.1 hown
  exact ⟨congrArg (fun b => Ending.returned (.bool b)) e.symm, BW.out⟩
 rw [decide_eq_true hown]
 have Hown := Hi hown
 clear hown
 go_wp2_with ((with_reducible refine so3 [2000] ?_ ?_); (focus rfl))
 refine at9 (by go_simp) fun K0 hK => wp_eql_b _ _ _ rfl a.gone b.gone rfl rfl (hK _ _ ?_)
 clear hK
 by_cases hgone : a.gone = b.gone
 case neg =>
  rw [decide_eq_false hgone]
  go_wp2_with fail
  go_ret
  have e : R = false := by
   cases hR : R with
   | false => rfl
   | true => exact absurd (HD.out.1 hR).2.2.2.2.2.2.2.1 hgone
  exact ⟨congrArg (fun b => Ending.returned (.bool b)) e.symm, BW.out⟩
 rw [decide_eq_true hgone]
 have Hgone := Hi hgone
 clear hgone
 go_wp2_with ((with_reducible refine so3 [2000] ?_ ?_); (focus rfl))
 refine at9 (by go_simp) fun K0 hK => wp_eql_b _ _ _ rfl a.wiped b.wiped rfl rfl (hK _ _ ?_)
 clear hK
 by_cases hwiped : a.wiped = b.wiped
 case neg =>
  rw [decide_eq_false hwiped]
  go_wp2_with fail
  go_ret
  have e : R = false := by
   cases hR : R with
   | false => rfl
   | true => exact absurd (HD.out.1 hR).2.2.2.2.2.2.2.2 hwiped
  exact ⟨congrArg (fun b => Ending.returned (.bool b)) e.symm, BW.out⟩
 rw [decide_eq_true hwiped]
 have Hwiped := Hi hwiped
 clear hwiped
 go_wp2_with fail
 go_ret
 have e : R = true := HD.out.2 ⟨Hid.out, Hgen.out, Hpin.out, Hsec.out, Hlim.out, Hused.out, Hown.out, Hgone.out, Hwiped.out⟩
 exact ⟨congrArg (fun b => Ending.returned (.bool b)) e.symm, BW.out⟩
end Go.Proofs.Ytmjfnpmnhehnkaa
namespace Go.Proofs.Ytmjfnpmnhehnkaa
open Go.RowKit
def z4 : List UInt8 := [0, 0, 0, 0]
def z16 : List UInt8 := [0, 0, 0, 0, 0, 0, 0, 0, 0, 0, 0, 0, 0, 0, 0, 0]
def zeroVt : Vt := ⟨z4, 0, z16, nilB, 0, 0, z16, false, false⟩
theorem zeroVt_ok : zeroVt.Ok := ⟨rfl, by decide, by decide, rfl, by decide, by decide, by decide, by decide, rfl⟩
def zeroVc : Vc := zeroVt.ct
def goneVt (id : List UInt8) (g : Int) (wi : Bool) : Vt := ⟨id, g, z16, nilB, 0, 0, z16, true, wi⟩
theorem goneVt_ok {id : List UInt8} {g : Int} {wi : Bool} (h : id.length = 4) (g0 : 0 ≤ g) (g1 : g < 18446744073709551616) : (goneVt id g wi).Ok := ⟨h, g0, g1, rfl, (by show (-9223372036854775808 : Int) ≤ 0; decide), (by show (0 : Int) ≤ 9223372036854775807; decide), (by show (-9223372036854775808 : Int) ≤ 0; decide), (by show (0 : Int) ≤ 9223372036854775807; decide), rfl⟩
theorem goneVt_in {id : List UInt8} {g : Int} {wi : Bool} (h : id.length = 4) (g0 : 0 ≤ g) (g1 : g < 18446744073709551616) (w : World) : VI w (goneVt id g wi) := ⟨goneVt_ok h g0 g1, nilB_in _ _⟩
def goneC (id : List UInt8) (g : Int) (wi : Bool) : Vc := (goneVt id g wi).ct
theorem built_zero : Try.prog.built 36 [] = some zeroVt.C.toArray := by kernel_rfl
theorem built_gone (id : List UInt8) (g : Int) (wi : Bool) (h : id.length = 4) : Try.prog.built 36 [(0, digV id), (1, .int .u64 g), (7, .bool true), (8, .bool wi)] = some (goneVt id g wi).C.toArray := by
 obtain ⟨a, b, c, d, rfl⟩ := len4 h
 kernel_rfl
theorem built_z16 : Try.prog.built 34 [] = some (Lib.byteCells z16).toArray := by kernel_rfl
def Vc.right (c : Vc) : Bool := decide (1 ≤ c.gen ∧ c.gen ≤ 1099511627776) && (if c.gone = true then decide (c = goneC c.id c.gen c.wiped) else (!c.wiped && decide (1 ≤ c.lim ∧ c.lim ≤ 32) && decide (0 ≤ c.used) && decide (c.used < c.lim) && decide (c.sec.length ≤ 64)))
theorem Vt.ct_id (x : Vt) : x.ct.id = x.id := rfl
theorem vright_any (a : Vt) (w : World) (ha : VI w a) : Calls Try.prog 99 #[a.V] w fun e w' => e = .returned (.bool a.ct.right) ∧ Ex w w' := by
 obtain ⟨z, hz⟩ : ∃ z, z = a.ct.right := ⟨_, rfl⟩
 rw [← hz]
 have HZ := Hi hz
 clear hz
 have HID := Hi ha.ok.idN
 have CS := Hi (fun (wi : Bool) w1 (k : Ex w w1) => vsame_any a (goneVt a.id a.gen wi) w1 (ha.ext k) (goneVt_in ha.ok.idN ha.ok.gen0 ha.ok.gen1 _))
 have CP := Hi (fun w1 => secret_any a.sec w1)
 have g0 := ha.ok.gen0
 have OK := Hi ha.ok
 obtain ⟨cs, hcs⟩ : ∃ cs, cs = a.C.toArray := ⟨_, rfl⟩
 have A0 : Hid (VB (w.alloc (.cells cs 36)) w.heap.size a) := Hi ⟨ha.ok, by rw [hcs]; exact Bk.new rfl _ _⟩
 have BW : Hid (Ex w (w.alloc (.cells cs 36))) := Hi (Ex.alloc w _)
 have AI := Hi (ha.ext BW.out)
 rw [show (Calls Try.prog 99 #[a.V] w) = (Calls Try.prog 99 #[.agg cs] w) by rw [hcs]; rfl]
 clear hcs ha
 by_cases h1 : 1 ≤ a.gen
 case neg =>
  obtain ⟨a4, a21, a22, a23, a40, a41⟩ := A0.out.cells
  unfold Pt.V at a21
  go_enter Try.func99, Try.ntmps99
  go_wp2_with fail
  go_ret
  have e : z = false := by
   rw [HZ.out]; unfold Vc.right
   have h : ¬ (1 ≤ a.ct.gen ∧ a.ct.gen ≤ 1099511627776) := by show ¬ (1 ≤ a.gen ∧ a.gen ≤ 1099511627776); omega
   rw [decide_eq_false h]; rfl
  exact ⟨congrArg (fun b => Ending.returned (.bool b)) e.symm, BW.out⟩
 by_cases h2 : a.gen ≤ 1099511627776
 case neg =>
  obtain ⟨a4, a21, a22, a23, a40, a41⟩ := A0.out.cells
  unfold Pt.V at a21
  go_enter Try.func99, Try.ntmps99
  go_wp2_with fail
  go_ret
  have e : z = false := by
   rw [HZ.out]; unfold Vc.right
   have h : ¬ (1 ≤ a.ct.gen ∧ a.ct.gen ≤ 1099511627776) := by show ¬ (1 ≤ a.gen ∧ a.gen ≤ 1099511627776); omega
   rw [decide_eq_false h]; rfl
  exact ⟨congrArg (fun b => Ending.returned (.bool b)) e.symm, BW.out⟩
 have HG : Hid (a.ct.right = if a.ct.gone = true then decide (a.ct = goneC a.ct.id a.ct.gen a.ct.wiped) else (!a.ct.wiped && decide (1 ≤ a.ct.lim ∧ a.ct.lim ≤ 32) && decide (0 ≤ a.ct.used) && decide (a.ct.used < a.ct.lim) && decide (a.ct.sec.length ≤ 64))) := Hi (by
  unfold Vc.right
  rw [decide_eq_true (show 1 ≤ a.ct.gen ∧ a.ct.gen ≤ 1099511627776 from ⟨h1, h2⟩), Bool.true_and])
 rw [HG.out] at HZ
 clear HG
 cases hg : a.gone
 case false =>
  rw [show a.ct.gone = false from hg] at HZ
  simp only [Bool.false_eq_true, if_false] at HZ
  cases hw : a.wiped
  case true =>
   obtain ⟨a4, a21, a22, a23, a40, a41⟩ := A0.out.cells
   unfold Pt.V at a21
   rw [hg] at a40
   rw [hw] at a41
   go_enter Try.func99, Try.ntmps99
   go_wp2_with fail
   go_ret
   have e : z = false := by
    rw [HZ.out]; rw [show a.ct.wiped = true from hw]; rfl
   exact ⟨congrArg (fun b => Ending.returned (.bool b)) e.symm, BW.out⟩
  rw [show a.ct.wiped = false from hw] at HZ
  simp only [Bool.not_false, Bool.true_and] at HZ
  have CL := Hi (fun w1 => limit_any a.lim w1)
  by_cases hl : 1 ≤ a.lim ∧ a.lim ≤ 32
  case neg =>
   rw [decide_eq_false hl] at CL
   obtain ⟨a4, a21, a22, a23, a40, a41⟩ := A0.out.cells
   unfold Pt.V at a21
   rw [hg] at a40
   rw [hw] at a41
   go_enter Try.func99, Try.ntmps99
   go_wp2_with ((with_reducible refine so0 ?_ ?_); (focus rfl))
   refine (CL.out _).mono ?_
   rintro e w2 ⟨rfl, rfl⟩
   clear CL
   go_wp2_with fail
   go_ret
   have e : z = false := by
    rw [HZ.out]; rw [show decide (1 ≤ a.ct.lim ∧ a.ct.lim ≤ 32) = false from decide_eq_false hl]; rfl
   exact ⟨congrArg (fun b => Ending.returned (.bool b)) e.symm, BW.out⟩
  rw [decide_eq_true hl] at CL
  rw [show decide (1 ≤ a.ct.lim ∧ a.ct.lim ≤ 32) = true from decide_eq_true hl, Bool.true_and] at HZ
  obtain ⟨hl1, hl2⟩ := hl
  by_cases hu : 0 ≤ a.used
  case neg =>
   have hu' : decide (0 ≤ a.used) = false := decide_eq_false hu
   have HU := Hi hu
   clear hu
   obtain ⟨a4, a21, a22, a23, a40, a41⟩ := A0.out.cells
   unfold Pt.V at a21
   rw [hg] at a40
   rw [hw] at a41
   go_enter Try.func99, Try.ntmps99
   go_wp2_with ((with_reducible refine so0 ?_ ?_); (focus rfl))
   refine (CL.out _).mono ?_
   rintro e w2 ⟨rfl, rfl⟩
   clear CL
   go_wp2_with fail
   go_ret
   have e : z = false := by
    rw [HZ.out]; rw [show decide (0 ≤ a.ct.used) = false from decide_eq_false (by have := HU.out; show ¬ (0 ≤ a.used); omega)]; rfl
   exact ⟨congrArg (fun b => Ending.returned (.bool b)) e.symm, BW.out⟩
  by_cases hv : a.used < a.lim
  case neg =>
   have hv' : decide (a.used < a.lim) = false := decide_eq_false hv
   have HV := Hi hv
   clear hv
   obtain ⟨a4, a21, a22, a23, a40, a41⟩ := A0.out.cells
   unfold Pt.V at a21
   rw [hg] at a40
   rw [hw] at a41
   go_enter Try.func99, Try.ntmps99
   go_wp2_with ((with_reducible refine so0 ?_ ?_); (focus rfl))
   refine (CL.out _).mono ?_
   rintro e w2 ⟨rfl, rfl⟩
   clear CL
   go_wp2_with fail
   go_ret
   have e : z = false := by
    rw [HZ.out]; rw [show decide (a.ct.used < a.ct.lim) = false from decide_eq_false (by have := HV.out; show ¬ (a.used < a.lim); omega)]; simp
   exact ⟨congrArg (fun b => Ending.returned (.bool b)) e.symm, BW.out⟩
  rw [show decide (0 ≤ a.ct.used) = true from decide_eq_true hu, show decide (a.ct.used < a.ct.lim) = true from decide_eq_true hv, Bool.true_and, Bool.true_and] at HZ
  obtain ⟨a4, a21, a22, a23, a40, a41⟩ := A0.out.cells
  unfold Pt.V at a21
  rw [hg] at a40
  rw [hw] at a41
  go_enter Try.func99, Try.ntmps99
  go_wp2_with ((with_reducible refine so0 ?_ ?_); (focus rfl))
  refine (CL.out _).mono ?_
  rintro e w2 ⟨rfl, rfl⟩
  clear CL
  go_wp2_with ((with_reducible refine so0 ?_ ?_); (focus rfl))
  refine (CP.out _).mono ?_
  rintro e w2 ⟨rfl, rfl⟩
  clear CP
  go_wp2_with fail
  go_ret
  have e : z = decide (a.sec.l.length ≤ 64) := HZ.out
  exact ⟨congrArg (fun b => Ending.returned (.bool b)) e.symm, BW.out⟩
 rw [show a.ct.gone = true from hg] at HZ
 simp only [if_true] at HZ
 have CS := Hi (fun w1 k => CS.out a.wiped w1 k)
 rw [show (goneVt a.id a.gen a.wiped).ct = goneC a.ct.id a.ct.gen a.ct.wiped from rfl, ← HZ.out] at CS
 obtain ⟨a4, a21, a22, a23, a40, a41⟩ := A0.out.cells
 unfold Pt.V at a21
 rw [hg] at a40
 go_enter Try.func99, Try.ntmps99
 go_wp2_with ((with_reducible refine so0 ?_ ?_); (focus rfl))
 refine at9 (by go_simp) fun K0 hK => ld_v _ _ a rfl rfl A0.out (hK _ _ ?_)
 clear hK
 go_wp2_with ((with_reducible refine so0 ?_ ?_); (focus rfl))
 refine at9 (by go_simp) fun K0 hK => ld_vid _ _ a rfl rfl A0.out (hK _ _ ?_)
 clear hK
 go_wp2_with ((with_reducible refine so0 ?_ ?_); (focus rfl))
 refine at9 (by go_simp) fun K0 hK => wp_build _ _ rfl _ (built_gone a.id a.gen a.wiped HID.out) (hK _ _ ?_)
 clear hK
 go_wp2_with ((with_reducible refine so0 ?_ ?_); (focus rfl))
 refine (CS.out _ BW.out).mono ?_
 rintro e w2 ⟨rfl, x2⟩
 have X2 := Hi (Ex.trans BW.out x2)
 clear CS x2
 go_wp2_with fail
 go_ret
 exact ⟨rfl, X2.out⟩
theorem rright_any (a : Vt) (w : World) (ha : VI w a) : Calls Try.prog 121 #[a.V] w fun e w' => e = .returned (.bool a.ct.right) ∧ Ex w w' := by
 obtain ⟨z, hz⟩ : ∃ z, z = a.ct.right := ⟨_, rfl⟩
 rw [← hz]
 have HZ := Hi hz
 clear hz
 have HID := Hi ha.ok.idN
 have g0 := ha.ok.gen0
 have OK := Hi ha.ok
 obtain ⟨cs, hcs⟩ : ∃ cs, cs = a.C.toArray := ⟨_, rfl⟩
 have A0 : Hid (VB (w.alloc (.cells cs 36)) w.heap.size a) := Hi ⟨ha.ok, by rw [hcs]; exact Bk.new rfl _ _⟩
 have BW : Hid (Ex w (w.alloc (.cells cs 36))) := Hi (Ex.alloc w _)
 have AI := Hi (ha.ext BW.out)
 rw [show (Calls Try.prog 121 #[a.V] w) = (Calls Try.prog 121 #[.agg cs] w) by rw [hcs]; rfl]
 clear hcs ha
 have CN := Hi (fun w1 => rnum_any a.gen w1)
 by_cases h1 : 1 ≤ a.gen
 case neg =>
  obtain ⟨a4, a21, a22, a23, a40, a41⟩ := A0.out.cells
  unfold Pt.V at a21
  go_enter Try.func121, Try.ntmps121
  go_wp2_with fail
  go_ret
  have e : z = false := by
   rw [HZ.out]; unfold Vc.right
   have h : ¬ (1 ≤ a.ct.gen ∧ a.ct.gen ≤ 1099511627776) := by show ¬ (1 ≤ a.gen ∧ a.gen ≤ 1099511627776); omega
   rw [decide_eq_false h]; rfl
  exact ⟨congrArg (fun b => Ending.returned (.bool b)) e.symm, BW.out⟩
 by_cases h2 : a.gen ≤ 1099511627776
 case neg =>
  have h2' : decide (a.gen ≤ 1099511627776) = false := by simpa using h2
  rw [h2'] at CN
  obtain ⟨a4, a21, a22, a23, a40, a41⟩ := A0.out.cells
  unfold Pt.V at a21
  go_enter Try.func121, Try.ntmps121
  go_wp2_with ((with_reducible refine so0 ?_ ?_); (focus rfl))
  refine (CN.out _).mono ?_
  rintro e w2 ⟨rfl, rfl⟩
  clear CN
  go_wp2_with fail
  go_ret
  have e : z = false := by
   rw [HZ.out]; unfold Vc.right
   have h : ¬ (1 ≤ a.ct.gen ∧ a.ct.gen ≤ 1099511627776) := by show ¬ (1 ≤ a.gen ∧ a.gen ≤ 1099511627776); omega
   rw [decide_eq_false h]; rfl
  exact ⟨congrArg (fun b => Ending.returned (.bool b)) e.symm, BW.out⟩
 have HG : Hid (a.ct.right = if a.ct.gone = true then decide (a.ct = goneC a.ct.id a.ct.gen a.ct.wiped) else (!a.ct.wiped && decide (1 ≤ a.ct.lim ∧ a.ct.lim ≤ 32) && decide (0 ≤ a.ct.used) && decide (a.ct.used < a.ct.lim) && decide (a.ct.sec.length ≤ 64))) := Hi (by
  unfold Vc.right
  rw [decide_eq_true (show 1 ≤ a.ct.gen ∧ a.ct.gen ≤ 1099511627776 from ⟨h1, h2⟩), Bool.true_and])
 rw [HG.out] at HZ
 clear HG
 have h2' : decide (a.gen ≤ 1099511627776) = true := by simpa using h2
 rw [h2'] at CN
 clear h2'
 cases hg : a.gone
 case false =>
  rw [show a.ct.gone = false from hg] at HZ
  simp only [Bool.false_eq_true, if_false] at HZ
  cases hw : a.wiped
  case true =>
   obtain ⟨a4, a21, a22, a23, a40, a41⟩ := A0.out.cells
   unfold Pt.V at a21
   rw [hg] at a40
   rw [hw] at a41
   go_enter Try.func121, Try.ntmps121
   go_wp2_with ((with_reducible refine so0 ?_ ?_); (focus rfl))
   refine (CN.out _).mono ?_
   rintro e w2 ⟨rfl, rfl⟩
   clear CN
   go_wp2_with fail
   go_ret
   have e : z = false := by
    rw [HZ.out]; rw [show a.ct.wiped = true from hw]; rfl
   exact ⟨congrArg (fun b => Ending.returned (.bool b)) e.symm, BW.out⟩
  rw [show a.ct.wiped = false from hw] at HZ
  simp only [Bool.not_false, Bool.true_and] at HZ
  by_cases hl : 1 ≤ a.lim ∧ a.lim ≤ 32
  case neg =>
   by_cases hl1 : 1 ≤ a.lim
   case pos =>
    have hl2 : decide (a.lim ≤ 32) = false := decide_eq_false (fun h => hl ⟨hl1, h⟩)
    have HL := Hi hl
    clear hl
    obtain ⟨a4, a21, a22, a23, a40, a41⟩ := A0.out.cells
    unfold Pt.V at a21
    rw [hg] at a40
    rw [hw] at a41
    go_enter Try.func121, Try.ntmps121
    go_wp2_with ((with_reducible refine so0 ?_ ?_); (focus rfl))
    refine (CN.out _).mono ?_
    rintro e w2 ⟨rfl, rfl⟩
    clear CN
    go_wp2_with fail
    go_ret
    have e : z = false := by
     rw [HZ.out]; rw [show decide (1 ≤ a.ct.lim ∧ a.ct.lim ≤ 32) = false from decide_eq_false HL.out]; rfl
    exact ⟨congrArg (fun b => Ending.returned (.bool b)) e.symm, BW.out⟩
   have hl2 : decide (1 ≤ a.lim) = false := decide_eq_false hl1
   have HL := Hi hl
   clear hl
   obtain ⟨a4, a21, a22, a23, a40, a41⟩ := A0.out.cells
   unfold Pt.V at a21
   rw [hg] at a40
   rw [hw] at a41
   go_enter Try.func121, Try.ntmps121
   go_wp2_with ((with_reducible refine so0 ?_ ?_); (focus rfl))
   refine (CN.out _).mono ?_
   rintro e w2 ⟨rfl, rfl⟩
   clear CN
   go_wp2_with fail
   go_ret
   have e : z = false := by
    rw [HZ.out]; rw [show decide (1 ≤ a.ct.lim ∧ a.ct.lim ≤ 32) = false from decide_eq_false HL.out]; rfl
   exact ⟨congrArg (fun b => Ending.returned (.bool b)) e.symm, BW.out⟩
  rw [show decide (1 ≤ a.ct.lim ∧ a.ct.lim ≤ 32) = true from decide_eq_true hl, Bool.true_and] at HZ
  obtain ⟨hl1, hl2⟩ := hl
  by_cases hu : 0 ≤ a.used
  case neg =>
   have hu' : decide (0 ≤ a.used) = false := decide_eq_false hu
   have HU := Hi hu
   clear hu
   obtain ⟨a4, a21, a22, a23, a40, a41⟩ := A0.out.cells
   unfold Pt.V at a21
   rw [hg] at a40
   rw [hw] at a41
   go_enter Try.func121, Try.ntmps121
   go_wp2_with ((with_reducible refine so0 ?_ ?_); (focus rfl))
   refine (CN.out _).mono ?_
   rintro e w2 ⟨rfl, rfl⟩
   clear CN
   go_wp2_with fail
   go_ret
   have e : z = false := by
    rw [HZ.out]; rw [show decide (0 ≤ a.ct.used) = false from decide_eq_false (by have := HU.out; show ¬ (0 ≤ a.used); omega)]; rfl
   exact ⟨congrArg (fun b => Ending.returned (.bool b)) e.symm, BW.out⟩
  by_cases hv : a.used < a.lim
  case neg =>
   have hv' : decide (a.used < a.lim) = false := decide_eq_false hv
   have HV := Hi hv
   clear hv
   obtain ⟨a4, a21, a22, a23, a40, a41⟩ := A0.out.cells
   unfold Pt.V at a21
   rw [hg] at a40
   rw [hw] at a41
   go_enter Try.func121, Try.ntmps121
   go_wp2_with ((with_reducible refine so0 ?_ ?_); (focus rfl))
   refine (CN.out _).mono ?_
   rintro e w2 ⟨rfl, rfl⟩
   clear CN
   go_wp2_with fail
   go_ret
   have e : z = false := by
    rw [HZ.out]; rw [show decide (a.ct.used < a.ct.lim) = false from decide_eq_false (by have := HV.out; show ¬ (a.used < a.lim); omega)]; simp
   exact ⟨congrArg (fun b => Ending.returned (.bool b)) e.symm, BW.out⟩
  rw [show decide (0 ≤ a.ct.used) = true from decide_eq_true hu, show decide (a.ct.used < a.ct.lim) = true from decide_eq_true hv, Bool.true_and, Bool.true_and] at HZ
  obtain ⟨a4, a21, a22, a23, a40, a41⟩ := A0.out.cells
  unfold Pt.V at a21
  rw [hg] at a40
  rw [hw] at a41
  have HS : Hid (decide ((a.sec.l.length : Int) ≤ 64) = decide (a.sec.l.length ≤ 64)) := Hi (by by_cases h : a.sec.l.length ≤ 64 <;> simp [h] <;> omega)
  go_enter Try.func121, Try.ntmps121
  go_wp2_with ((with_reducible refine so0 ?_ ?_); (focus rfl))
  refine (CN.out _).mono ?_
  rintro e w2 ⟨rfl, rfl⟩
  clear CN
  go_wp2_with fail
  go_ret
  have e : z = decide (a.sec.l.length ≤ 64) := HZ.out
  rw [← HS.out] at e
  exact ⟨congrArg (fun b => Ending.returned (.bool b)) e.symm, BW.out⟩
 rw [show a.ct.gone = true from hg] at HZ
 simp only [if_true] at HZ
 have HQ : Hid (z = true ↔ (a.lim = 0 ∧ a.used = 0 ∧ a.pin = z16 ∧ a.own = z16 ∧ a.sec.l = [])) := Hi (by
  rw [HZ.out, decide_eq_true_iff, Vc.eq_iff]
  constructor
  ·rintro ⟨_, _, q1, q2, q3, q4, q5, _, _⟩; exact ⟨q3, q4, q1, q5, q2⟩
  ·rintro ⟨q3, q4, q1, q5, q2⟩; exact ⟨rfl, rfl, q1, q2, q3, q4, q5, hg, rfl⟩)
 obtain ⟨a4, a21, a22, a23, a40, a41⟩ := A0.out.cells
 unfold Pt.V at a21
 rw [hg] at a40
 go_enter Try.func121, Try.ntmps121
 go_wp2_with ((with_reducible refine so3 [2000] ?_ ?_); (focus rfl))
 refine (CN.out _).mono ?_
 rintro e w2 ⟨rfl, rfl⟩
 clear CN
 go_wp2_with ((with_reducible refine so3 [2000] ?_ ?_); (focus rfl))
 refine at9 (by go_simp) fun K0 hK => wp_eql_i64 _ _ _ rfl a.lim 0 rfl rfl (hK _ _ ?_)
 clear hK
 by_cases hq : a.lim = 0
 case neg =>
  rw [decide_eq_false hq]
  go_wp2_with fail
  go_ret
  have e : z = false := by
   cases hR : z with
   | false => rfl
   | true => exact absurd (HQ.out.1 hR).1 hq
  exact ⟨congrArg (fun b => Ending.returned (.bool b)) e.symm, BW.out⟩
 rw [decide_eq_true hq]
 have Q0 := Hi hq
 clear hq
 go_wp2_with ((with_reducible refine so3 [2000] ?_ ?_); (focus rfl))
 refine at9 (by go_simp) fun K0 hK => wp_eql_i64 _ _ _ rfl a.used 0 rfl rfl (hK _ _ ?_)
 clear hK
 by_cases hq : a.used = 0
 case neg =>
  rw [decide_eq_false hq]
  go_wp2_with fail
  go_ret
  have e : z = false := by
   cases hR : z with
   | false => rfl
   | true => exact absurd (HQ.out.1 hR).2.1 hq
  exact ⟨congrArg (fun b => Ending.returned (.bool b)) e.symm, BW.out⟩
 rw [decide_eq_true hq]
 have Q1 := Hi hq
 clear hq
 go_wp2_with ((with_reducible refine so3 [2000] ?_ ?_); (focus rfl))
 refine at9 (by go_simp) fun K0 hK => ld_vpin _ _ a rfl rfl A0.out (hK _ _ ?_)
 clear hK
 go_wp2_with ((with_reducible refine so3 [2000] ?_ ?_); (focus rfl))
 refine at9 (by go_simp) fun K0 hK => wp_build _ _ rfl _ built_z16 (hK _ _ ?_)
 clear hK
 go_wp2_with ((with_reducible refine so3 [2000] ?_ ?_); (focus rfl))
 refine at9 (by go_simp) fun K0 hK => wp_eql_dig _ _ _ rfl a.pin z16 A0.out.1.pinN rfl rfl rfl (hK _ _ ?_)
 clear hK
 by_cases hq : a.pin = z16
 case neg =>
  rw [decide_eq_false hq]
  go_wp2_with fail
  go_ret
  have e : z = false := by
   cases hR : z with
   | false => rfl
   | true => exact absurd (HQ.out.1 hR).2.2.1 hq
  exact ⟨congrArg (fun b => Ending.returned (.bool b)) e.symm, BW.out⟩
 rw [decide_eq_true hq]
 have Q2 := Hi hq
 clear hq
 go_wp2_with ((with_reducible refine so3 [2000] ?_ ?_); (focus rfl))
 refine at9 (by go_simp) fun K0 hK => ld_vown _ _ a rfl rfl A0.out (hK _ _ ?_)
 clear hK
 go_wp2_with ((with_reducible refine so3 [2000] ?_ ?_); (focus rfl))
 refine at9 (by go_simp) fun K0 hK => wp_build _ _ rfl _ built_z16 (hK _ _ ?_)
 clear hK
 go_wp2_with ((with_reducible refine so3 [2000] ?_ ?_); (focus rfl))
 refine at9 (by go_simp) fun K0 hK => wp_eql_dig _ _ _ rfl a.own z16 A0.out.1.ownN rfl rfl rfl (hK _ _ ?_)
 clear hK
 by_cases hq : a.own = z16
 case neg =>
  rw [decide_eq_false hq]
  go_wp2_with fail
  go_ret
  have e : z = false := by
   cases hR : z with
   | false => rfl
   | true => exact absurd (HQ.out.1 hR).2.2.2.1 hq
  exact ⟨congrArg (fun b => Ending.returned (.bool b)) e.symm, BW.out⟩
 rw [decide_eq_true hq]
 have Q3 := Hi hq
 clear hq
 go_wp2_with ((with_reducible refine so3 [2000] ?_ ?_); (focus rfl))
 refine at9 (by go_simp) fun K0 hK => wp_eql_i64 _ _ _ rfl a.sec.l.length 0 rfl rfl (hK _ _ ?_)
 clear hK
 by_cases hq : ((a.sec.l.length : Nat) : Int) = 0
 case neg =>
  rw [decide_eq_false hq]
  go_wp2_with fail
  go_ret
  have e : z = false := by
   cases hR : z with
   | false => rfl
   | true => exact absurd (by rw [(HQ.out.1 hR).2.2.2.2]; rfl) hq
  exact ⟨congrArg (fun b => Ending.returned (.bool b)) e.symm, BW.out⟩
 rw [decide_eq_true hq]
 go_wp2_with fail
 go_ret
 have e : z = true := HQ.out.2 ⟨Q0.out, Q1.out, Q2.out, Q3.out, List.eq_nil_of_length_eq_zero (by omega)⟩
 exact ⟨congrArg (fun b => Ending.returned (.bool b)) e.symm, BW.out⟩
def Vc.left (c : Vc) : Int := if c.gone = true then 0 else if c.right = true then c.lim - c.used else 0
end Go.Proofs.Ytmjfnpmnhehnkaa
namespace Go.Proofs.Ytmjfnpmnhehnkaa
open Go.RowKit
structure Qc where
 op : Int
 id : List UInt8
 pin : List UInt8
 sec : List UInt8
 lim : Int
 own : List UInt8
 key : List UInt8
 client : Int
 num : Int
def Qt.ct (x : Qt) : Qc := ⟨x.op, x.id, x.pin, x.sec.l, x.lim, x.own, x.key, x.client, x.num⟩
structure QI (w : World) (x : Qt) : Prop where
 ok : x.Ok
 sec : x.sec.In w w.heap.size
theorem QI.ext {w w' : World} {x : Qt} (h : QI w x) (k : Ex w w') : QI w' x := ⟨h.ok, h.sec.ext k⟩
structure Rc where
 why : Int
 id : List UInt8
 gen : Int
 left : Int
 sec : List UInt8
 client : Int
 num : Int
def Rt.ct (x : Rt) : Rc := ⟨x.why, x.id, x.gen, x.left, x.sec.l, x.client, x.num⟩
structure RI (w : World) (x : Rt) : Prop where
 ok : x.Ok
 sec : x.sec.In w w.heap.size
theorem RI.ext {w w' : World} {x : Rt} (h : RI w x) (k : Ex w w') : RI w' x := ⟨h.ok, h.sec.ext k⟩
def Qc.right (c : Qc) : Bool := decide (0 ≤ c.client ∧ c.client < 4 ∧ c.num ≤ 1099511627776) && (if c.op = 1 ∨ c.op = 3 then decide (1 ≤ c.lim ∧ c.lim ≤ 32) && decide (c.sec.length ≤ 64) else if c.op = 2 then decide (c.lim = 0) && decide (c.own = z16) && decide (c.sec = []) else if c.op = 4 then decide (c.lim = 0) && decide (c.pin = z16) && decide (c.sec = []) else false)
def OwnPost (a : Vt) (w : World) (e : Ending) (w' : World) : Prop := ∃ p : Pt, e = .returned (Vt.V { a with sec := p }) ∧ p.l = a.sec.l ∧ PN w' w.heap.size p ∧ Ex w w'
theorem ownv_any (a : Vt) (hL : a.sec.l.length ≤ 140737488355328) (w : World) (ha : VI w a) : Calls Try.prog 101 #[a.V] w (OwnPost a w) := by
 have CC := Hi (fun w1 (k : Ex w w1) => bclone_any a.sec hL w1 (ha.ext k).sec)
 obtain ⟨cs, hcs⟩ : ∃ cs, cs = a.C.toArray := ⟨_, rfl⟩
 have OK := Hi ha.ok
 have A0 : Hid (VB ((w.alloc (.cells cs 36)).alloc (.cells zeroVt.C.toArray 36)) w.heap.size a) := Hi ⟨ha.ok, by rw [hcs]; exact (Bk.new rfl _ _).more _⟩
 have Z0 : Hid (VB ((w.alloc (.cells cs 36)).alloc (.cells zeroVt.C.toArray 36)) (w.heap.size + 1) zeroVt) := Hi ⟨zeroVt_ok, Bk.new (by simp) _ _⟩
 have BW : Hid (Ex w ((w.alloc (.cells cs 36)).alloc (.cells zeroVt.C.toArray 36))) := Hi (Ex.trans (Ex.alloc w _) (Ex.alloc _ _))
 rw [show (Calls Try.prog 101 #[a.V] w) = (Calls Try.prog 101 #[.agg cs] w) by rw [hcs]; rfl]
 clear hcs ha
 go_enter Try.func101, Try.ntmps101
 go_wp2_with ((with_reducible refine so2 [1000+25, 25] ?_ ?_); (focus rfl))
 change Stop (wpList _ _ _ _ _ ((w.alloc (.cells cs 36)).alloc (.cells zeroVt.C.toArray 36)))
 generalize hw1 : (w.alloc (.cells cs 36)).alloc (.cells zeroVt.C.toArray 36) = w1 at *
 clear hw1
 obtain ⟨B, hB⟩ : ∃ B, B = w.heap.size := ⟨_, rfl⟩
 rw [← hB] at A0 Z0 ⊢
 have HB := Hi hB
 clear hB
 obtain ⟨a4, a21, a22, a23, a40, a41⟩ := A0.out.cells
 unfold Pt.V at a21 CC
 clear a4 a22 a23 a40 a41
 (with_reducible refine ⟨?_⟩)
 go_wp2_with ((with_reducible refine so2 [1000+25] ?_ ?_); (focus rfl))
 refine (CC.out _ BW.out).mono ?_
 rintro e w2 ⟨p, rfl, hpl, hpi, x2⟩
 have A2 := Hi (A0.out.ext x2)
 have Z2 := Hi (Z0.out.ext x2)
 have X2 := Hi (Ex.trans BW.out x2)
 have HPL := Hi hpl
 have HPI := Hi (hpi.less (show B + 2 ≤ w1.heap.size from Z0.out.lt))
 clear CC x2 a21 A0 Z0 hpl hpi BW
 go_wp2_with ((with_reducible refine so2 [1000+25] ?_ ?_); (focus rfl))
 refine at9 (by go_simp) fun K0 hK => st_vsec (by kernel_rfl) _ _ B a p rfl rfl rfl A2.out (fun w3 hd ho => hK _ _ ?_)
 clear hK
 have A3 := Hi hd
 have Z3 := Hi (ho.vb Z2.out (by omega))
 have X3 := Hi (ho.below w.heap.size (by rw [← HB.out]; omega) w X2.out)
 have P3 := Hi (HPI.out.only ho (by omega))
 clear A2 Z2 X2 hd ho HPI
 go_wp2_with ((with_reducible refine so2 [1000+25] ?_ ?_); (focus rfl))
 refine at9 (by go_simp) fun K0 hK => ld_v _ _ { a with sec := p } rfl rfl A3.out (hK _ _ ?_)
 clear hK
 go_wp2_with ((with_reducible refine so2 [1000+25] ?_ ?_); (focus rfl))
 refine at9 (by go_simp) fun K0 hK => st_v _ _ (B + 1) { a with sec := p } rfl rfl rfl A3.out.1 Z3.out.2 (by rw [List.size_toArray, Vt.len zeroVt_ok]) (fun w4 hd ho => hK _ _ ?_)
 clear hK
 have X4 := ho.below w.heap.size (by rw [← HB.out]; omega) w X3.out
 have P4 := P3.out.only ho (by omega)
 clear ho
 go_wp2_with fail
 exact bodyPost_ret (res_v rfl _ _ (B + 1) rfl { a with sec := p } hd) rfl ⟨p, rfl, HPL.out, P4.less (by rw [← HB.out]; omega), X4⟩
end Go.Proofs.Ytmjfnpmnhehnkaa
