/- vaults: equality -/
import Derived.Test.YtmjfnpmnhehnkaaVc
namespace Go.Proofs.Ytmjfnpmnhehnkaa
open Go.RowKit
section
variable {o : Oper} {a : Act} {w : World} {K : Act → World → Prop} {Q : Exit → Act → World → Prop}
theorem wp_eql_u64 (t' : TypeId) (x y : Operand) (ho : o.op = .binOp .eql 24 x y t') (m n : Int) (hx : a.eval x = .int .u64 m) (hy : a.eval y = .int .u64 n) (h : K (a.put o.dst (.bool (decide (m = n)))) w) : o.wp Try.prog a w K Q := by
 unfold Oper.wp
 obtain ⟨ev, hev⟩ : ∃ ev, ev = a.eval := ⟨_, rfl⟩
 rw [← hev] at hx hy ⊢
 clear hev
 unfold execOp
 simp only [ho]
 simp [hx, hy, go_sem]
 go_simp
 exact h
theorem wp_eql_i64 (t' : TypeId) (x y : Operand) (ho : o.op = .binOp .eql 3 x y t') (m n : Int) (hx : a.eval x = .int .i64 m) (hy : a.eval y = .int .i64 n) (h : K (a.put o.dst (.bool (decide (m = n)))) w) : o.wp Try.prog a w K Q := by
 unfold Oper.wp
 obtain ⟨ev, hev⟩ : ∃ ev, ev = a.eval := ⟨_, rfl⟩
 rw [← hev] at hx hy ⊢
 clear hev
 unfold execOp
 simp only [ho]
 simp [hx, hy, go_sem]
 go_simp
 exact h
theorem wp_eql_err (t' : TypeId) (x y : Operand) (ho : o.op = .binOp .eql 45 x y t') (m n : Int) (hx : a.eval x = .int .i64 m) (hy : a.eval y = .int .i64 n) (h : K (a.put o.dst (.bool (decide (m = n)))) w) : o.wp Try.prog a w K Q := by
 unfold Oper.wp
 obtain ⟨ev, hev⟩ : ∃ ev, ev = a.eval := ⟨_, rfl⟩
 rw [← hev] at hx hy ⊢
 clear hev
 unfold execOp
 simp only [ho]
 simp [hx, hy, go_sem]
 go_simp
 exact h
theorem wp_eql_u8 (t' : TypeId) (x y : Operand) (ho : o.op = .binOp .eql 5 x y t') (m n : Int) (hx : a.eval x = .int .u8 m) (hy : a.eval y = .int .u8 n) (h : K (a.put o.dst (.bool (decide (m = n)))) w) : o.wp Try.prog a w K Q := by
 unfold Oper.wp
 obtain ⟨ev, hev⟩ : ∃ ev, ev = a.eval := ⟨_, rfl⟩
 rw [← hev] at hx hy ⊢
 clear hev
 unfold execOp
 simp only [ho]
 simp [hx, hy, go_sem]
 go_simp
 exact h
theorem wp_eql_b (t' : TypeId) (x y : Operand) (ho : o.op = .binOp .eql 4 x y t') (m n : Bool) (hx : a.eval x = .bool m) (hy : a.eval y = .bool n) (h : K (a.put o.dst (.bool (decide (m = n)))) w) : o.wp Try.prog a w K Q := by
 have h' : K (a.put o.dst (.bool (m == n))) w := by
  have e : (m == n) = decide (m = n) := by cases m <;> cases n <;> rfl
  rw [e]; exact h
 unfold Oper.wp
 obtain ⟨ev, hev⟩ : ∃ ev, ev = a.eval := ⟨_, rfl⟩
 rw [← hev] at hx hy ⊢
 clear hev
 unfold execOp
 simp only [ho]
 simp [hx, hy, go_sem]
 go_simp
 exact h'
theorem wp_eql_s (t' : TypeId) (x y : Operand) (ho : o.op = .binOp .eql 9 x y t') (m n : ByteArray) (hx : a.eval x = .string m) (hy : a.eval y = .string n) (z : Bool) (hz : (m.toList == n.toList) = z) (h : K (a.put o.dst (.bool z)) w) : o.wp Try.prog a w K Q := by
 unfold Oper.wp
 obtain ⟨ev, hev⟩ : ∃ ev, ev = a.eval := ⟨_, rfl⟩
 rw [← hev] at hx hy ⊢
 clear hev
 unfold execOp
 simp only [ho]
 subst hz
 simp [hx, hy, go_sem]
 go_simp
 exact h
end
/-- what a vault tells -/
structure Vc where
 id : List UInt8
 gen : Int
 pin : List UInt8
 sec : List UInt8
 lim : Int
 used : Int
 own : List UInt8
 gone : Bool
 wiped : Bool
def Vt.ct (x : Vt) : Vc := ⟨x.id, x.gen, x.pin, x.sec.l, x.lim, x.used, x.own, x.gone, x.wiped⟩
theorem Vc.eq_iff (a b : Vc) : a = b ↔ (a.id = b.id ∧ a.gen = b.gen ∧ a.pin = b.pin ∧ a.sec = b.sec ∧ a.lim = b.lim ∧ a.used = b.used ∧ a.own = b.own ∧ a.gone = b.gone ∧ a.wiped = b.wiped) := by
 cases a; cases b; simp
instance : DecidableEq Vc := fun a b => decidable_of_iff _ (Vc.eq_iff a b).symm
/-- a vault with its secret in memory -/
structure VI (w : World) (x : Vt) : Prop where
 ok : x.Ok
 sec : x.sec.In w w.heap.size
theorem VI.ext {w w' : World} {x : Vt} (h : VI w x) (k : Ex w w') : VI w' x := ⟨h.ok, h.sec.ext k⟩
set_option maxHeartbeats 4000000 in
set_option maxRecDepth 100000 in
theorem vsame_any (a b : Vt) (w : World) (ha : VI w a) (hb : VI w b) : Calls Try.prog 66 #[a.V, b.V] w fun e w' => e = .returned (.bool (decide (a.ct = b.ct))) ∧ Ex w w' := by
 obtain ⟨R, hR⟩ : ∃ R, R = decide (a.ct = b.ct) := ⟨_, rfl⟩
 have HD : Hid (R = true ↔ (a.id = b.id ∧ a.gen = b.gen ∧ a.pin = b.pin ∧ a.sec.l = b.sec.l ∧ a.lim = b.lim ∧ a.used = b.used ∧ a.own = b.own ∧ a.gone = b.gone ∧ a.wiped = b.wiped)) := Lib.hid (by rw [hR, decide_eq_true_iff, Vc.eq_iff]; exact Iff.rfl)
 rw [← hR]
 obtain ⟨cs, hcs⟩ : ∃ cs, cs = a.C.toArray := ⟨_, rfl⟩
 obtain ⟨ds, hds⟩ : ∃ cs, cs = b.C.toArray := ⟨_, rfl⟩
 have A0 : Hid (VB ((w.alloc (.cells cs 36)).alloc (.cells ds 36)) w.heap.size a) := Lib.hid ⟨ha.ok, by rw [hcs]; exact (Bk.new rfl _ _).more _⟩
 have B0 : Hid (VB ((w.alloc (.cells cs 36)).alloc (.cells ds 36)) (w.heap.size + 1) b) := Lib.hid ⟨hb.ok, by rw [hds]; exact Bk.new (by simp) _ _⟩
 have BW : Hid (Ex w ((w.alloc (.cells cs 36)).alloc (.cells ds 36))) := Lib.hid (Ex.trans (Ex.alloc w _) (Ex.alloc _ _))
 have AI := Lib.hid (ha.ext BW.out)
 have BI := Lib.hid (hb.ext BW.out)
 rw [show (Calls Try.prog 66 #[a.V, b.V] w) = (Calls Try.prog 66 #[.agg cs, .agg ds] w) by rw [hcs, hds]; rfl]
 clear hcs hds ha hb hR
 go_enter Try.func66, Try.ntmps66
 go_wp2_with (first | ((with_reducible refine stop_big ?_ ?_); (focus rfl)) | (with_reducible refine stop_build ?_) | (with_reducible refine stop_eql ?_))
 generalize hw1 : (w.alloc (.cells cs 36)).alloc (.cells ds 36) = w1 at *
 clear hw1
 obtain ⟨B, hB⟩ : ∃ B, B = w.heap.size := ⟨_, rfl⟩
 rw [← hB] at A0 B0 ⊢
 clear hB
 obtain ⟨a4, a21, a22, a23, a40, a41⟩ := A0.out.cells
 obtain ⟨b4, b21, b22, b23, b40, b41⟩ := B0.out.cells
 have CS := Lib.hid (same_any a.sec b.sec w1 AI.out.sec BI.out.sec)
 unfold Pt.V at a21 b21 CS
 (with_reducible refine ⟨?_⟩); (with_reducible refine at_any ?_ ?_); (focus go_simp); refine fun K0 hK => ld_vid _ _ a rfl rfl A0.out (hK _ _ ?_)
 clear hK
 go_wp2_with (first | ((with_reducible refine stop_big ?_ ?_); (focus rfl)) | (with_reducible refine stop_build ?_) | (with_reducible refine stop_eql ?_))
 (with_reducible refine ⟨?_⟩); (with_reducible refine at_any ?_ ?_); (focus go_simp); refine fun K0 hK => ld_vid _ _ b rfl rfl B0.out (hK _ _ ?_)
 clear hK
 go_wp2_with (first | ((with_reducible refine stop_big ?_ ?_); (focus rfl)) | (with_reducible refine stop_build ?_) | (with_reducible refine stop_eql ?_))
 (with_reducible refine ⟨?_⟩); (with_reducible refine at_any ?_ ?_); (focus go_simp); refine fun K0 hK => wp_eql_id _ _ _ rfl a.id b.id A0.out.1.idN B0.out.1.idN rfl rfl (hK _ _ ?_)
 clear hK
 by_cases hid : a.id = b.id
 case neg =>
  rw [decide_eq_false hid]
  go_wp2_with fail
  go_ret
  have e : R = false := by
   cases hR : R with
   | false => rfl
   | true => exact absurd (HD.out.1 hR).1 hid
  exact ⟨congrArg (fun b => Ending.returned (.bool b)) e.symm, BW.out⟩
 rw [decide_eq_true hid]
 have Hid := Lib.hid hid
 clear hid
 go_wp2_with (first | ((with_reducible refine stop_big ?_ ?_); (focus rfl)) | (with_reducible refine stop_build ?_) | (with_reducible refine stop_eql ?_))
 (with_reducible refine ⟨?_⟩); (with_reducible refine at_any ?_ ?_); (focus go_simp); refine fun K0 hK => wp_eql_u64 _ _ _ rfl a.gen b.gen rfl rfl (hK _ _ ?_)
 clear hK
 by_cases hgen : a.gen = b.gen
 case neg =>
  rw [decide_eq_false hgen]
  go_wp2_with fail
  go_ret
  have e : R = false := by
   cases hR : R with
   | false => rfl
   | true => exact absurd (HD.out.1 hR).2.1 hgen
  exact ⟨congrArg (fun b => Ending.returned (.bool b)) e.symm, BW.out⟩
 rw [decide_eq_true hgen]
 have Hgen := Lib.hid hgen
 clear hgen
 go_wp2_with (first | ((with_reducible refine stop_big ?_ ?_); (focus rfl)) | (with_reducible refine stop_build ?_) | (with_reducible refine stop_eql ?_))
 (with_reducible refine ⟨?_⟩); (with_reducible refine at_any ?_ ?_); (focus go_simp); refine fun K0 hK => ld_vpin _ _ a rfl rfl A0.out (hK _ _ ?_)
 clear hK
 go_wp2_with (first | ((with_reducible refine stop_big ?_ ?_); (focus rfl)) | (with_reducible refine stop_build ?_) | (with_reducible refine stop_eql ?_))
 (with_reducible refine ⟨?_⟩); (with_reducible refine at_any ?_ ?_); (focus go_simp); refine fun K0 hK => ld_vpin _ _ b rfl rfl B0.out (hK _ _ ?_)
 clear hK
 go_wp2_with (first | ((with_reducible refine stop_big ?_ ?_); (focus rfl)) | (with_reducible refine stop_build ?_) | (with_reducible refine stop_eql ?_))
 (with_reducible refine ⟨?_⟩); (with_reducible refine at_any ?_ ?_); (focus go_simp); refine fun K0 hK => wp_eql_dig _ _ _ rfl a.pin b.pin A0.out.1.pinN B0.out.1.pinN rfl rfl (hK _ _ ?_)
 clear hK
 by_cases hpin : a.pin = b.pin
 case neg =>
  rw [decide_eq_false hpin]
  go_wp2_with fail
  go_ret
  have e : R = false := by
   cases hR : R with
   | false => rfl
   | true => exact absurd (HD.out.1 hR).2.2.1 hpin
  exact ⟨congrArg (fun b => Ending.returned (.bool b)) e.symm, BW.out⟩
 rw [decide_eq_true hpin]
 have Hpin := Lib.hid hpin
 clear hpin
 go_wp2_with (first | ((with_reducible refine stop_big ?_ ?_); (focus rfl)) | (with_reducible refine stop_build ?_) | (with_reducible refine stop_eql ?_))
 (with_reducible refine ⟨?_⟩); (with_reducible refine at_any ?_ ?_); (focus go_simp); refine fun K0 hK => ld_vown _ _ a rfl rfl A0.out (hK _ _ ?_)
 clear hK
 go_wp2_with (first | ((with_reducible refine stop_big ?_ ?_); (focus rfl)) | (with_reducible refine stop_build ?_) | (with_reducible refine stop_eql ?_))
 (with_reducible refine ⟨?_⟩); (with_reducible refine at_any ?_ ?_); (focus go_simp); refine fun K0 hK => ld_vown _ _ b rfl rfl B0.out (hK _ _ ?_)
 clear hK
 go_wp2_with (first | ((with_reducible refine stop_big ?_ ?_); (focus rfl)) | (with_reducible refine stop_build ?_) | (with_reducible refine stop_eql ?_))
 (with_reducible refine ⟨?_⟩); (with_reducible refine at_any ?_ ?_); (focus go_simp); refine fun K0 hK => wp_eql_dig _ _ _ rfl a.own b.own A0.out.1.ownN B0.out.1.ownN rfl rfl (hK _ _ ?_)
 clear hK
 by_cases hown : a.own = b.own
 case neg =>
  rw [decide_eq_false hown]
  go_wp2_with fail
  go_ret
  have e : R = false := by
   cases hR : R with
   | false => rfl
   | true => exact absurd (HD.out.1 hR).2.2.2.2.2.2.1 hown
  exact ⟨congrArg (fun b => Ending.returned (.bool b)) e.symm, BW.out⟩
 rw [decide_eq_true hown]
 have Hown := Lib.hid hown
 clear hown
 go_wp2_with (first | ((with_reducible refine stop_big ?_ ?_); (focus rfl)) | (with_reducible refine stop_build ?_) | (with_reducible refine stop_eql ?_))
 (with_reducible refine ⟨?_⟩); (with_reducible refine at_any ?_ ?_); (focus go_simp); refine fun K0 hK => wp_eql_i64 _ _ _ rfl a.lim b.lim rfl rfl (hK _ _ ?_)
 clear hK
 by_cases hlim : a.lim = b.lim
 case neg =>
  rw [decide_eq_false hlim]
  go_wp2_with fail
  go_ret
  have e : R = false := by
   cases hR : R with
   | false => rfl
   | true => exact absurd (HD.out.1 hR).2.2.2.2.1 hlim
  exact ⟨congrArg (fun b => Ending.returned (.bool b)) e.symm, BW.out⟩
 rw [decide_eq_true hlim]
 have Hlim := Lib.hid hlim
 clear hlim
 go_wp2_with (first | ((with_reducible refine stop_big ?_ ?_); (focus rfl)) | (with_reducible refine stop_build ?_) | (with_reducible refine stop_eql ?_))
 (with_reducible refine ⟨?_⟩); (with_reducible refine at_any ?_ ?_); (focus go_simp); refine fun K0 hK => wp_eql_i64 _ _ _ rfl a.used b.used rfl rfl (hK _ _ ?_)
 clear hK
 by_cases hused : a.used = b.used
 case neg =>
  rw [decide_eq_false hused]
  go_wp2_with fail
  go_ret
  have e : R = false := by
   cases hR : R with
   | false => rfl
   | true => exact absurd (HD.out.1 hR).2.2.2.2.2.1 hused
  exact ⟨congrArg (fun b => Ending.returned (.bool b)) e.symm, BW.out⟩
 rw [decide_eq_true hused]
 have Hused := Lib.hid hused
 clear hused
 go_wp2_with (first | ((with_reducible refine stop_big ?_ ?_); (focus rfl)) | (with_reducible refine stop_build ?_) | (with_reducible refine stop_eql ?_))
 (with_reducible refine ⟨?_⟩); (with_reducible refine at_any ?_ ?_); (focus go_simp); refine fun K0 hK => wp_eql_b _ _ _ rfl a.gone b.gone rfl rfl (hK _ _ ?_)
 clear hK
 by_cases hgone : a.gone = b.gone
 case neg =>
  rw [decide_eq_false hgone]
  go_wp2_with fail
  go_ret
  have e : R = false := by
   cases hR : R with
   | false => rfl
   | true => exact absurd (HD.out.1 hR).2.2.2.2.2.2.2.1 hgone
  exact ⟨congrArg (fun b => Ending.returned (.bool b)) e.symm, BW.out⟩
 rw [decide_eq_true hgone]
 have Hgone := Lib.hid hgone
 clear hgone
 go_wp2_with (first | ((with_reducible refine stop_big ?_ ?_); (focus rfl)) | (with_reducible refine stop_build ?_) | (with_reducible refine stop_eql ?_))
 (with_reducible refine ⟨?_⟩); (with_reducible refine at_any ?_ ?_); (focus go_simp); refine fun K0 hK => wp_eql_b _ _ _ rfl a.wiped b.wiped rfl rfl (hK _ _ ?_)
 clear hK
 by_cases hwiped : a.wiped = b.wiped
 case neg =>
  rw [decide_eq_false hwiped]
  go_wp2_with fail
  go_ret
  have e : R = false := by
   cases hR : R with
   | false => rfl
   | true => exact absurd (HD.out.1 hR).2.2.2.2.2.2.2.2 hwiped
  exact ⟨congrArg (fun b => Ending.returned (.bool b)) e.symm, BW.out⟩
 rw [decide_eq_true hwiped]
 have Hwiped := Lib.hid hwiped
 clear hwiped
 go_wp2_with (first | ((with_reducible refine stop_big ?_ ?_); (focus rfl)) | (with_reducible refine stop_build ?_) | (with_reducible refine stop_eql ?_))
 refine CS.out.mono ?_
 rintro e w2 ⟨rfl, rfl⟩
 clear CS
 by_cases hsec : a.sec.l = b.sec.l
 case neg =>
  rw [decide_eq_false hsec]
  go_wp2_with fail
  go_ret
  have e : R = false := by
   cases hR : R with
   | false => rfl
   | true => exact absurd (HD.out.1 hR).2.2.2.1 hsec
  exact ⟨congrArg (fun b => Ending.returned (.bool b)) e.symm, BW.out⟩
 rw [decide_eq_true hsec]
 have Hsec := Lib.hid hsec
 clear hsec
 go_wp2_with fail
 go_ret
 have e : R = true := HD.out.2 ⟨Hid.out, Hgen.out, Hpin.out, Hsec.out, Hlim.out, Hused.out, Hown.out, Hgone.out, Hwiped.out⟩
 exact ⟨congrArg (fun b => Ending.returned (.bool b)) e.symm, BW.out⟩
set_option maxHeartbeats 4000000 in
set_option maxRecDepth 100000 in
theorem rsame_any (a b : Vt) (w : World) (ha : VI w a) (hb : VI w b) : Calls Try.prog 35 #[a.V, b.V] w fun e w' => e = .returned (.bool (decide (a.ct = b.ct))) ∧ Ex w w' := by
 obtain ⟨R, hR⟩ : ∃ R, R = decide (a.ct = b.ct) := ⟨_, rfl⟩
 have HD : Hid (R = true ↔ (a.id = b.id ∧ a.gen = b.gen ∧ a.pin = b.pin ∧ a.sec.l = b.sec.l ∧ a.lim = b.lim ∧ a.used = b.used ∧ a.own = b.own ∧ a.gone = b.gone ∧ a.wiped = b.wiped)) := Lib.hid (by rw [hR, decide_eq_true_iff, Vc.eq_iff]; exact Iff.rfl)
 rw [← hR]
 obtain ⟨cs, hcs⟩ : ∃ cs, cs = a.C.toArray := ⟨_, rfl⟩
 obtain ⟨ds, hds⟩ : ∃ cs, cs = b.C.toArray := ⟨_, rfl⟩
 have A0 : Hid (VB ((w.alloc (.cells cs 36)).alloc (.cells ds 36)) w.heap.size a) := Lib.hid ⟨ha.ok, by rw [hcs]; exact (Bk.new rfl _ _).more _⟩
 have B0 : Hid (VB ((w.alloc (.cells cs 36)).alloc (.cells ds 36)) (w.heap.size + 1) b) := Lib.hid ⟨hb.ok, by rw [hds]; exact Bk.new (by simp) _ _⟩
 have BW : Hid (Ex w ((w.alloc (.cells cs 36)).alloc (.cells ds 36))) := Lib.hid (Ex.trans (Ex.alloc w _) (Ex.alloc _ _))
 have AI := Lib.hid (ha.ext BW.out)
 have BI := Lib.hid (hb.ext BW.out)
 rw [show (Calls Try.prog 35 #[a.V, b.V] w) = (Calls Try.prog 35 #[.agg cs, .agg ds] w) by rw [hcs, hds]; rfl]
 clear hcs hds ha hb hR
 go_enter Try.func35, Try.ntmps35
 go_wp2_with (first | ((with_reducible refine stop_big ?_ ?_); (focus rfl)) | (with_reducible refine stop_build ?_) | (with_reducible refine stop_eql ?_))
 generalize hw1 : (w.alloc (.cells cs 36)).alloc (.cells ds 36) = w1 at *
 clear hw1
 obtain ⟨B, hB⟩ : ∃ B, B = w.heap.size := ⟨_, rfl⟩
 rw [← hB] at A0 B0 ⊢
 clear hB
 obtain ⟨a4, a21, a22, a23, a40, a41⟩ := A0.out.cells
 obtain ⟨b4, b21, b22, b23, b40, b41⟩ := B0.out.cells
 have c1 := pt_conv a.sec w1 AI.out.sec
 have c2 := pt_conv b.sec w1 BI.out.sec
 have HS := Lib.hid (strL_beq a.sec.l b.sec.l)
 generalize strL a.sec.l = sa at *
 generalize strL b.sec.l = sb at *
 unfold Pt.V at a21 b21
 (with_reducible refine ⟨?_⟩); (with_reducible refine at_any ?_ ?_); (focus go_simp); refine fun K0 hK => ld_vid _ _ a rfl rfl A0.out (hK _ _ ?_)
 clear hK
 go_wp2_with (first | ((with_reducible refine stop_big ?_ ?_); (focus rfl)) | (with_reducible refine stop_build ?_) | (with_reducible refine stop_eql ?_))
 (with_reducible refine ⟨?_⟩); (with_reducible refine at_any ?_ ?_); (focus go_simp); refine fun K0 hK => ld_vid _ _ b rfl rfl B0.out (hK _ _ ?_)
 clear hK
 go_wp2_with (first | ((with_reducible refine stop_big ?_ ?_); (focus rfl)) | (with_reducible refine stop_build ?_) | (with_reducible refine stop_eql ?_))
 (with_reducible refine ⟨?_⟩); (with_reducible refine at_any ?_ ?_); (focus go_simp); refine fun K0 hK => wp_eql_id _ _ _ rfl a.id b.id A0.out.1.idN B0.out.1.idN rfl rfl (hK _ _ ?_)
 clear hK
 by_cases hid : a.id = b.id
 case neg =>
  rw [decide_eq_false hid]
  go_wp2_with fail
  go_ret
  have e : R = false := by
   cases hR : R with
   | false => rfl
   | true => exact absurd (HD.out.1 hR).1 hid
  exact ⟨congrArg (fun b => Ending.returned (.bool b)) e.symm, BW.out⟩
 rw [decide_eq_true hid]
 have Hid := Lib.hid hid
 clear hid
 go_wp2_with (first | ((with_reducible refine stop_big ?_ ?_); (focus rfl)) | (with_reducible refine stop_build ?_) | (with_reducible refine stop_eql ?_))
 (with_reducible refine ⟨?_⟩); (with_reducible refine at_any ?_ ?_); (focus go_simp); refine fun K0 hK => wp_eql_u64 _ _ _ rfl a.gen b.gen rfl rfl (hK _ _ ?_)
 clear hK
 by_cases hgen : a.gen = b.gen
 case neg =>
  rw [decide_eq_false hgen]
  go_wp2_with fail
  go_ret
  have e : R = false := by
   cases hR : R with
   | false => rfl
   | true => exact absurd (HD.out.1 hR).2.1 hgen
  exact ⟨congrArg (fun b => Ending.returned (.bool b)) e.symm, BW.out⟩
 rw [decide_eq_true hgen]
 have Hgen := Lib.hid hgen
 clear hgen
 go_wp2_with (first | ((with_reducible refine stop_big ?_ ?_); (focus rfl)) | (with_reducible refine stop_build ?_) | (with_reducible refine stop_eql ?_))
 (with_reducible refine ⟨?_⟩); (with_reducible refine at_any ?_ ?_); (focus go_simp); refine fun K0 hK => ld_vpin _ _ a rfl rfl A0.out (hK _ _ ?_)
 clear hK
 go_wp2_with (first | ((with_reducible refine stop_big ?_ ?_); (focus rfl)) | (with_reducible refine stop_build ?_) | (with_reducible refine stop_eql ?_))
 (with_reducible refine ⟨?_⟩); (with_reducible refine at_any ?_ ?_); (focus go_simp); refine fun K0 hK => ld_vpin _ _ b rfl rfl B0.out (hK _ _ ?_)
 clear hK
 go_wp2_with (first | ((with_reducible refine stop_big ?_ ?_); (focus rfl)) | (with_reducible refine stop_build ?_) | (with_reducible refine stop_eql ?_))
 (with_reducible refine ⟨?_⟩); (with_reducible refine at_any ?_ ?_); (focus go_simp); refine fun K0 hK => wp_eql_dig _ _ _ rfl a.pin b.pin A0.out.1.pinN B0.out.1.pinN rfl rfl (hK _ _ ?_)
 clear hK
 by_cases hpin : a.pin = b.pin
 case neg =>
  rw [decide_eq_false hpin]
  go_wp2_with fail
  go_ret
  have e : R = false := by
   cases hR : R with
   | false => rfl
   | true => exact absurd (HD.out.1 hR).2.2.1 hpin
  exact ⟨congrArg (fun b => Ending.returned (.bool b)) e.symm, BW.out⟩
 rw [decide_eq_true hpin]
 have Hpin := Lib.hid hpin
 clear hpin
 go_wp2_with (first | ((with_reducible refine stop_big ?_ ?_); (focus rfl)) | (with_reducible refine stop_build ?_) | (with_reducible refine stop_eql ?_))
 (with_reducible refine ⟨?_⟩); (with_reducible refine at_any ?_ ?_); (focus go_simp); refine fun K0 hK => wp_eql_s _ _ _ rfl sa sb rfl rfl _ HS.out (hK _ _ ?_)
 clear hK
 clear HS
 by_cases hsec : a.sec.l = b.sec.l
 case neg =>
  rw [decide_eq_false hsec]
  go_wp2_with fail
  go_ret
  have e : R = false := by
   cases hR : R with
   | false => rfl
   | true => exact absurd (HD.out.1 hR).2.2.2.1 hsec
  exact ⟨congrArg (fun b => Ending.returned (.bool b)) e.symm, BW.out⟩
 rw [decide_eq_true hsec]
 have Hsec := Lib.hid hsec
 clear hsec
 go_wp2_with (first | ((with_reducible refine stop_big ?_ ?_); (focus rfl)) | (with_reducible refine stop_build ?_) | (with_reducible refine stop_eql ?_))
 (with_reducible refine ⟨?_⟩); (with_reducible refine at_any ?_ ?_); (focus go_simp); refine fun K0 hK => wp_eql_i64 _ _ _ rfl a.lim b.lim rfl rfl (hK _ _ ?_)
 clear hK
 by_cases hlim : a.lim = b.lim
 case neg =>
  rw [decide_eq_false hlim]
  go_wp2_with fail
  go_ret
  have e : R = false := by
   cases hR : R with
   | false => rfl
   | true => exact absurd (HD.out.1 hR).2.2.2.2.1 hlim
  exact ⟨congrArg (fun b => Ending.returned (.bool b)) e.symm, BW.out⟩
 rw [decide_eq_true hlim]
 have Hlim := Lib.hid hlim
 clear hlim
 go_wp2_with (first | ((with_reducible refine stop_big ?_ ?_); (focus rfl)) | (with_reducible refine stop_build ?_) | (with_reducible refine stop_eql ?_))
 (with_reducible refine ⟨?_⟩); (with_reducible refine at_any ?_ ?_); (focus go_simp); refine fun K0 hK => wp_eql_i64 _ _ _ rfl a.used b.used rfl rfl (hK _ _ ?_)
 clear hK
 by_cases hused : a.used = b.used
 case neg =>
  rw [decide_eq_false hused]
  go_wp2_with fail
  go_ret
  have e : R = false := by
   cases hR : R with
   | false => rfl
   | true => exact absurd (HD.out.1 hR).2.2.2.2.2.1 hused
  exact ⟨congrArg (fun b => Ending.returned (.bool b)) e.symm, BW.out⟩
 rw [decide_eq_true hused]
 have Hused := Lib.hid hused
 clear hused
 go_wp2_with (first | ((with_reducible refine stop_big ?_ ?_); (focus rfl)) | (with_reducible refine stop_build ?_) | (with_reducible refine stop_eql ?_))
 (with_reducible refine ⟨?_⟩); (with_reducible refine at_any ?_ ?_); (focus go_simp); refine fun K0 hK => ld_vown _ _ a rfl rfl A0.out (hK _ _ ?_)
 clear hK
 go_wp2_with (first | ((with_reducible refine stop_big ?_ ?_); (focus rfl)) | (with_reducible refine stop_build ?_) | (with_reducible refine stop_eql ?_))
 (with_reducible refine ⟨?_⟩); (with_reducible refine at_any ?_ ?_); (focus go_simp); refine fun K0 hK => ld_vown _ _ b rfl rfl B0.out (hK _ _ ?_)
 clear hK
 go_wp2_with (first | ((with_reducible refine stop_big ?_ ?_); (focus rfl)) | (with_reducible refine stop_build ?_) | (with_reducible refine stop_eql ?_))
 (with_reducible refine ⟨?_⟩); (with_reducible refine at_any ?_ ?_); (focus go_simp); refine fun K0 hK => wp_eql_dig _ _ _ rfl a.own b.own A0.out.1.ownN B0.out.1.ownN rfl rfl (hK _ _ ?_)
 clear hK
 by_cases hown : a.own = b.own
 case neg =>
  rw [decide_eq_false hown]
  go_wp2_with fail
  go_ret
  have e : R = false := by
   cases hR : R with
   | false => rfl
   | true => exact absurd (HD.out.1 hR).2.2.2.2.2.2.1 hown
  exact ⟨congrArg (fun b => Ending.returned (.bool b)) e.symm, BW.out⟩
 rw [decide_eq_true hown]
 have Hown := Lib.hid hown
 clear hown
 go_wp2_with (first | ((with_reducible refine stop_big ?_ ?_); (focus rfl)) | (with_reducible refine stop_build ?_) | (with_reducible refine stop_eql ?_))
 (with_reducible refine ⟨?_⟩); (with_reducible refine at_any ?_ ?_); (focus go_simp); refine fun K0 hK => wp_eql_b _ _ _ rfl a.gone b.gone rfl rfl (hK _ _ ?_)
 clear hK
 by_cases hgone : a.gone = b.gone
 case neg =>
  rw [decide_eq_false hgone]
  go_wp2_with fail
  go_ret
  have e : R = false := by
   cases hR : R with
   | false => rfl
   | true => exact absurd (HD.out.1 hR).2.2.2.2.2.2.2.1 hgone
  exact ⟨congrArg (fun b => Ending.returned (.bool b)) e.symm, BW.out⟩
 rw [decide_eq_true hgone]
 have Hgone := Lib.hid hgone
 clear hgone
 go_wp2_with (first | ((with_reducible refine stop_big ?_ ?_); (focus rfl)) | (with_reducible refine stop_build ?_) | (with_reducible refine stop_eql ?_))
 (with_reducible refine ⟨?_⟩); (with_reducible refine at_any ?_ ?_); (focus go_simp); refine fun K0 hK => wp_eql_b _ _ _ rfl a.wiped b.wiped rfl rfl (hK _ _ ?_)
 clear hK
 by_cases hwiped : a.wiped = b.wiped
 case neg =>
  rw [decide_eq_false hwiped]
  go_wp2_with fail
  go_ret
  have e : R = false := by
   cases hR : R with
   | false => rfl
   | true => exact absurd (HD.out.1 hR).2.2.2.2.2.2.2.2 hwiped
  exact ⟨congrArg (fun b => Ending.returned (.bool b)) e.symm, BW.out⟩
 rw [decide_eq_true hwiped]
 have Hwiped := Lib.hid hwiped
 clear hwiped
 go_wp2_with fail
 go_ret
 have e : R = true := HD.out.2 ⟨Hid.out, Hgen.out, Hpin.out, Hsec.out, Hlim.out, Hused.out, Hown.out, Hgone.out, Hwiped.out⟩
 exact ⟨congrArg (fun b => Ending.returned (.bool b)) e.symm, BW.out⟩
end Go.Proofs.Ytmjfnpmnhehnkaa
