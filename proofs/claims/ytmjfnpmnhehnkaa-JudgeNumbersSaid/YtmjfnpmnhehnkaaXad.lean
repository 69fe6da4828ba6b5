/- Vc, Vd -/
import Derived.Test.YtmjfnpmnhehnkaaXac
namespace Go.Proofs.Ytmjfnpmnhehnkaa
open Go.RowKit
set_option maxHeartbeats 4000000 in
set_option maxRecDepth 100000 in
theorem bclone_any (p : Pt) (h8 : p.l.length ≤ 140737488355328) (w : World) (hp : p.In w w.heap.size) : Calls Try.prog 131 #[p.V] w (CPost p.l w) := by
 obtain ⟨ad, cap, l⟩ := p
 cases ad with
 | none =>
  obtain rfl : cap = 0 := hp.nil rfl
  have h0 : l = [] := List.eq_nil_of_length_eq_zero (Nat.le_zero.1 hp.cap)
  subst h0
  unfold Pt.V
  have q43 : ∀ (w : World) (a : Option Addr) (n c n' c' : Nat), (binOp .eql 25 (.slice a n c) (.slice none n' c')).run Try.prog w = .ok (.bool a.isNone) w := fun w a n c n' c' => Lib.run_eql_slice_nil w _ _ a n c n' c' Try.underlying25
  go_enter Try.func131, Try.ntmps131
  go_wp2_with fail
  go_ret
  exact ⟨nilB, rfl, rfl, nilB_pn _ _, Below.refl _ _⟩
 | some ad =>
  unfold Pt.V
  simp only at h8 ⊢
  obtain ⟨n, hn⟩ : ∃ n, n = l.length := ⟨_, rfl⟩
  have HN := Hi hn
  have xa : Ex w (w.alloc (.cells (#[] : Array Value) 5)) := (Below.refl _ _).alloc (Nat.le_refl _) _
  have OW := Hi (show ownU (w.alloc (.cells (#[] : Array Value) 5)) w.heap.size (.slice (some ⟨w.heap.size, 0, none⟩) 0 0) [] from World.ownsRow_lit w #[] 0 (Nat.le_refl _) (by unfold maxLen; omega) rfl)
  have HP := Hi (hp.ext xa)
  have XA := Hi xa
  rw [← hn] at h8 ⊢
  have H8 := Hi h8
  have NEWS := Hi (show 0 < n → ∃ ad', some ad = some ad' ∧ ∀ j u, (Lib.byteCells l)[j]? = some u → (w.alloc (.cells (#[] : Array Value) 5)).cell? (ad'.add j) = some u from fun h => by
   obtain ⟨a, o, e, hl, hc⟩ := HP.out.read (by show 0 < l.length; rw [← hn]; exact h)
   refine ⟨ad, rfl, fun j u hu => ?_⟩
   have hj : j < l.length := by have := (List.getElem?_eq_some_iff.1 hu).1; simpa [Lib.byteCells] using this
   have e : ad = ⟨a, o, none⟩ := Option.some.inj e
   subst e
   rw [Addr.add_lit, hc j hj, ← hu]
   simp [Lib.byteCells, List.getD, hj])
  clear hn hp xa
  have q43 : ∀ (w : World) (a : Option Addr) (n c n' c' : Nat), (binOp .eql 25 (.slice a n c) (.slice none n' c')).run Try.prog w = .ok (.bool a.isNone) w := fun w a n c n' c' => Lib.run_eql_slice_nil w _ _ a n c n' c' Try.underlying25
  go_enter Try.func131, Try.ntmps131
  go_wp2_with (at_builtin; refine sm_append rfl (.tmp 5) (.tmp 6) rfl w.heap.size _ 0 (Lib.byteCells []) rfl OW.out (some ad) n cap l rfl ?_ HN.out.symm ?_ ?_ ?_ ?_; (focus (exact fun h => by cases h)); (focus (exact NEWS.out)); (focus (have := H8.out; omega)); (focus (exact XA.out.size)); intro v3 w3 hown3 hg3; have HO3 := Hi hown3; have HG3 := Hi hg3; clear hown3 hg3)
  go_ret
  have bx : Below w.heap.size (w.alloc (.cells (#[] : Array Value) 5)) w3 := (Below.refl _ _).grown HG3.out XA.out.size (fun x hx => (World.ownsRow.lt OW.out x hx).1)
  have ow : ownU w3 w.heap.size v3 l := by
   have h := HO3.out
   unfold ownU
   rw [← HN.out]
   simpa [Lib.byteCells] using h
  obtain ⟨q, hqv, hql, hqin⟩ := own_pn ow
  exact ⟨q, by rw [← hqv]; rfl, hql, hqin, Below.trans XA.out bx⟩
set_option maxHeartbeats 2000000 in
set_option maxRecDepth 100000 in
theorem equal_any (p q : Pt) (w : World) {B : Nat} (hp : p.In w B) (hq : q.In w B) :
  Calls Try.prog 135 #[p.V, q.V] w fun e w' => e = .returned (.bool (decide (p.l = q.l))) ∧ w = w' := by
 have c1 := pt_conv p w hp
 have c2 := pt_conv q w hq
 have hd := (strL_beq p.l q.l).symm
 obtain ⟨s, hs⟩ : ∃ s, s = strL p.l := ⟨_, rfl⟩
 obtain ⟨t, ht⟩ : ∃ s, s = strL q.l := ⟨_, rfl⟩
 rw [← hs] at c1 hd
 rw [← ht] at c2 hd
 have HD := Hi hd
 clear hs ht hd
 unfold Pt.V
 generalize p.l.length = n1 at c1 ⊢
 generalize q.l.length = n2 at c2 ⊢
 go_enter Try.func135, Try.ntmps135
 go_wp2_with fail
 go_ret
 refine ⟨congrArg Ending.returned (congrArg Value.bool ?_), rfl⟩
 rw [HD.out]
set_option maxHeartbeats 2000000 in
set_option maxRecDepth 100000 in
theorem same_any (p q : Pt) (w : World) {B : Nat} (hp : p.In w B) (hq : q.In w B) :
  Calls Try.prog 106 #[p.V, q.V] w fun e w' => e = .returned (.bool (decide (p.l = q.l))) ∧ w = w' := by
 have E := Hi (equal_any p q w hp hq)
 obtain ⟨d, hd⟩ : ∃ d, d = decide (p.l = q.l) := ⟨_, rfl⟩
 rw [← hd] at E ⊢
 clear hd
 unfold Pt.V at E ⊢
 go_enter Try.func106, Try.ntmps106
 go_wp2_with fail
 refine E.out.mono ?_
 rintro e w1 ⟨rfl, rfl⟩
 go_wp2_with fail
 go_ret
 exact ⟨rfl, rfl⟩
set_option maxRecDepth 100000 in
theorem limit_any (n : Int) (w : World) : Calls Try.prog 113 #[.int .i64 n] w fun e w' => e = .returned (.bool (decide (1 ≤ n ∧ n ≤ 32))) ∧ w = w' := by
 by_cases h0 : 1 ≤ n
 ·by_cases h1 : n ≤ 32
  ·go_enter Try.func113, Try.ntmps113
   go_wp2
   go_ret
   exact ⟨by simp [h0, h1], rfl⟩
  have h1' : decide (n ≤ 32) = false := by simpa using h1
  go_enter Try.func113, Try.ntmps113
  go_wp2
  go_ret
  exact ⟨by simp [h1], rfl⟩
 have h0' : decide (1 ≤ n) = false := by simpa using h0
 go_enter Try.func113, Try.ntmps113
 go_wp2
 go_ret
 exact ⟨by simp [h0], rfl⟩
set_option maxRecDepth 100000 in
theorem secret_any (p : Pt) (w : World) : Calls Try.prog 114 #[p.V] w fun e w' => e = .returned (.bool (decide (p.l.length ≤ 64))) ∧ w = w' := by
 unfold Pt.V
 generalize p.l.length = n
 have hd : decide ((n : Int) ≤ 64) = decide (n ≤ 64) := by by_cases h : n ≤ 64 <;> simp [h] <;> omega
 rw [← hd]
 clear hd
 go_enter Try.func114, Try.ntmps114
 go_wp2
 go_ret
 exact ⟨rfl, rfl⟩
set_option maxRecDepth 100000 in
theorem sender_any (c n : Int) (w : World) : Calls Try.prog 112 #[.int .i64 c, .int .u64 n] w fun e w' => e = .returned (.bool (decide (0 ≤ c ∧ c < 4 ∧ n ≤ 1099511627776))) ∧ w = w' := by
 by_cases h0 : 0 ≤ c
 ·by_cases h1 : c < 4
  ·go_enter Try.func112, Try.ntmps112
   go_wp2
   go_ret
   exact ⟨by simp [h0, h1], rfl⟩
  have h1' : decide (c < 4) = false := by simpa using h1
  go_enter Try.func112, Try.ntmps112
  go_wp2
  go_ret
  exact ⟨by simp [h1], rfl⟩
 have h0' : decide (0 ≤ c) = false := by simpa using h0
 go_enter Try.func112, Try.ntmps112
 go_wp2
 go_ret
 exact ⟨by simp [h0], rfl⟩
set_option maxRecDepth 100000 in
theorem rnum_any (n : Int) (w : World) : Calls Try.prog 120 #[.int .u64 n] w fun e w' => e = .returned (.bool (decide (n ≤ 1099511627776))) ∧ w = w' := by
 go_enter Try.func120, Try.ntmps120
 go_wp2
 go_ret
 exact ⟨rfl, rfl⟩
/-- clavigerbook.Within -/
def WitPost (lo hi : Int) (w : World) (e : Ending) (w' : World) : Prop := ∃ m : Int, e = .returned (.int .i64 m) ∧ lo ≤ m ∧ m ≤ hi ∧ w = w'
set_option maxHeartbeats 4000000 in
set_option maxRecDepth 100000 in
theorem within_any (c lo hi : Int) (hc : -9223372036854775808 ≤ c ∧ c ≤ 9223372036854775807) (h0 : -1 ≤ lo) (h1 : lo ≤ hi) (h2 : hi ≤ 10000000) (w : World) :
  Calls Try.prog 20 #[.int .i64 c, .int .i64 lo, .int .i64 hi] w (WitPost lo hi w) := by
 go_enter Try.func20, Try.ntmps20
 obtain ⟨n, hn⟩ : ∃ n, n = hi - lo + 1 := ⟨_, rfl⟩
 have n0 : 0 < n := by omega
 have m1 : c.tmod n < n := Int.tmod_lt_of_pos _ n0
 have m2 : -n < c.tmod n := by
  have h := Int.tmod_lt_of_pos (-c) n0
  rw [Int.neg_tmod] at h; omega
 have m3 := Int.emod_nonneg c (show n ≠ 0 by omega)
 have m4 := Int.emod_lt_of_pos c n0
 rw [hn] at m1 m2 m3 m4
 clear hn n0
 by_cases a1 : lo ≤ c
 ·by_cases a2 : c ≤ hi
  ·clear m1 m2 m3 m4
   go_wp2_with fail
   go_ret
   exact ⟨c, rfl, a1, a2, rfl⟩
  go_wp2_with fail
  all_goals (go_ret; refine ⟨_, rfl, ?_, ?_, rfl⟩ <;> omega)
 go_wp2_with fail
 all_goals (go_ret; refine ⟨_, rfl, ?_, ?_, rfl⟩ <;> omega)
theorem bcut_in {p : Pt} {w : World} {B : Nat} (h : p.In w B) (k : Nat) : (Pt.mk p.ad p.cap (p.l.take k)).In w B :=
 ⟨by have := h.cap; simp only [List.length_take]; omega, h.nil, fun h0 => by
  simp only [List.length_take] at h0
  obtain ⟨a, o, e, hB, hc⟩ := h.read (by omega)
  refine ⟨a, o, e, hB, fun i hi => ?_⟩
  simp only [List.length_take] at hi
  rw [hc i (by omega)]
  simp only [List.getD, List.getElem?_take]
  rw [if_pos (by omega)]⟩
set_option maxHeartbeats 4000000 in
set_option maxRecDepth 100000 in
theorem cut_any (p : Pt) (k : Nat) (hk : k ≤ 1000) (hk0 : 0 < k) (hL : p.l.length ≤ 9223372036854775807) (w : World) (hp : p.In w w.heap.size) : Calls Try.prog 69 #[p.V, .int .i64 k] w fun e w' => e = .returned (Pt.mk p.ad p.cap (p.l.take k)).V ∧ w = w' := by
 obtain ⟨ad, cap, l⟩ := p
 unfold Pt.V
 simp only at *
 have hcap := hp.cap
 simp only at hcap
 obtain ⟨n, hn⟩ : ∃ n, n = l.length := ⟨_, rfl⟩
 rw [← hn] at hL hcap ⊢
 by_cases h : n ≤ k
 ·have e : (l.take k).length = n := by rw [List.length_take]; omega
  rw [e]
  clear hp hn e
  have h' : (n : Int) ≤ (k : Int) := by omega
  go_enter Try.func69, Try.ntmps69
  go_wp2
  go_ret
  exact ⟨rfl, rfl⟩
 have e : (l.take k).length = k := by rw [List.length_take]; omega
 rw [e]
 obtain ⟨a, ha⟩ : ∃ a, ad = some a := by
  cases had : ad with
  | none => have := hp.nil had; simp only at this; omega
  | some a => exact ⟨a, rfl⟩
 subst ha
 clear hp hn e
 have h' : (k : Int) < (n : Int) := by omega
 have k1 : (k : Int) ≤ (cap : Int) := by omega
 have k2 : (0 : Int) ≤ (k : Int) := by omega
 have k3 : k ≤ cap := by omega
 go_enter Try.func69, Try.ntmps69
 go_wp2
 go_ret
 exact ⟨rfl, rfl⟩
end Go.Proofs.Ytmjfnpmnhehnkaa
namespace Go.Proofs.Ytmjfnpmnhehnkaa
open Go.RowKit
section
variable {o : Oper} {a : Act} {w : World} {K : Act → World → Prop} {Q : Exit → Act → World → Prop}
theorem wp_eql_u64 (t' : TypeId) (x y : Operand) (ho : o.op = .binOp .eql 24 x y t') (m n : Int) (hx : a.eval x = .int .u64 m) (hy : a.eval y = .int .u64 n) (h : K (a.put o.dst (.bool (decide (m = n)))) w) : o.wp Try.prog a w K Q := by
 unfold Oper.wp
 obtain ⟨ev, hev⟩ : ∃ ev, ev = a.eval := ⟨_, rfl⟩
 rw [← hev] at hx hy ⊢
 clear hev
 unfold execOp
 simp only [ho]
 simp [hx, hy, go_sem]
 go_simp
 exact h
theorem wp_eql_i64 (t' : TypeId) (x y : Operand) (ho : o.op = .binOp .eql 3 x y t') (m n : Int) (hx : a.eval x = .int .i64 m) (hy : a.eval y = .int .i64 n) (h : K (a.put o.dst (.bool (decide (m = n)))) w) : o.wp Try.prog a w K Q := by
 unfold Oper.wp
 obtain ⟨ev, hev⟩ : ∃ ev, ev = a.eval := ⟨_, rfl⟩
 rw [← hev] at hx hy ⊢
 clear hev
 unfold execOp
 simp only [ho]
 simp [hx, hy, go_sem]
 go_simp
 exact h
theorem wp_eql_err (t' : TypeId) (x y : Operand) (ho : o.op = .binOp .eql 45 x y t') (m n : Int) (hx : a.eval x = .int .i64 m) (hy : a.eval y = .int .i64 n) (h : K (a.put o.dst (.bool (decide (m = n)))) w) : o.wp Try.prog a w K Q := by
 unfold Oper.wp
 obtain ⟨ev, hev⟩ : ∃ ev, ev = a.eval := ⟨_, rfl⟩
 rw [← hev] at hx hy ⊢
 clear hev
 unfold execOp
 simp only [ho]
 simp [hx, hy, go_sem]
 go_simp
 exact h
theorem wp_eql_b (t' : TypeId) (x y : Operand) (ho : o.op = .binOp .eql 4 x y t') (m n : Bool) (hx : a.eval x = .bool m) (hy : a.eval y = .bool n) (h : K (a.put o.dst (.bool (decide (m = n)))) w) : o.wp Try.prog a w K Q := by
 have h' : K (a.put o.dst (.bool (m == n))) w := by
  have e : (m == n) = decide (m = n) := by cases m <;> cases n <;> rfl
  rw [e]; exact h
 unfold Oper.wp
 obtain ⟨ev, hev⟩ : ∃ ev, ev = a.eval := ⟨_, rfl⟩
 rw [← hev] at hx hy ⊢
 clear hev
 unfold execOp
 simp only [ho]
 simp [hx, hy, go_sem]
 go_simp
 exact h'
theorem wp_eql_s (t' : TypeId) (x y : Operand) (ho : o.op = .binOp .eql 9 x y t') (m n : ByteArray) (hx : a.eval x = .string m) (hy : a.eval y = .string n) (z : Bool) (hz : (m.toList == n.toList) = z) (h : K (a.put o.dst (.bool z)) w) : o.wp Try.prog a w K Q := by
 unfold Oper.wp
 obtain ⟨ev, hev⟩ : ∃ ev, ev = a.eval := ⟨_, rfl⟩
 rw [← hev] at hx hy ⊢
 clear hev
 unfold execOp
 simp only [ho]
 subst hz
 simp [hx, hy, go_sem]
 go_simp
 exact h
end
/-- what a vault tells -/
structure Vc where
 id : List UInt8
 gen : Int
 pin : List UInt8
 sec : List UInt8
 lim : Int
 used : Int
 own : List UInt8
 gone : Bool
 wiped : Bool
def Vt.ct (x : Vt) : Vc := ⟨x.id, x.gen, x.pin, x.sec.l, x.lim, x.used, x.own, x.gone, x.wiped⟩
theorem Vc.eq_iff (a b : Vc) : a = b ↔ (a.id = b.id ∧ a.gen = b.gen ∧ a.pin = b.pin ∧ a.sec = b.sec ∧ a.lim = b.lim ∧ a.used = b.used ∧ a.own = b.own ∧ a.gone = b.gone ∧ a.wiped = b.wiped) := by
 cases a; cases b; simp
instance : DecidableEq Vc := fun a b => decidable_of_iff _ (Vc.eq_iff a b).symm
/-- a vault with its secret in memory -/
structure VI (w : World) (x : Vt) : Prop where
 ok : x.Ok
 sec : x.sec.In w w.heap.size
theorem VI.ext {w w' : World} {x : Vt} (h : VI w x) (k : Ex w w') : VI w' x := ⟨h.ok, h.sec.ext k⟩
set_option maxHeartbeats 4000000 in
set_option maxRecDepth 100000 in
theorem vsame_any (a b : Vt) (w : World) (ha : VI w a) (hb : VI w b) : Calls Try.prog 66 #[a.V, b.V] w fun e w' => e = .returned (.bool (decide (a.ct = b.ct))) ∧ Ex w w' := by
 obtain ⟨R, hR⟩ : ∃ R, R = decide (a.ct = b.ct) := ⟨_, rfl⟩
 have HD : Hid (R = true ↔ (a.id = b.id ∧ a.gen = b.gen ∧ a.pin = b.pin ∧ a.sec.l = b.sec.l ∧ a.lim = b.lim ∧ a.used = b.used ∧ a.own = b.own ∧ a.gone = b.gone ∧ a.wiped = b.wiped)) := Hi (by rw [hR, decide_eq_true_iff, Vc.eq_iff]; exact Iff.rfl)
 rw [← hR]
 obtain ⟨cs, hcs⟩ : ∃ cs, cs = a.C.toArray := ⟨_, rfl⟩
 obtain ⟨ds, hds⟩ : ∃ cs, cs = b.C.toArray := ⟨_, rfl⟩
 have A0 : Hid (VB ((w.alloc (.cells cs 36)).alloc (.cells ds 36)) w.heap.size a) := Hi ⟨ha.ok, by rw [hcs]; exact (Bk.new rfl _ _).more _⟩
 have B0 : Hid (VB ((w.alloc (.cells cs 36)).alloc (.cells ds 36)) (w.heap.size + 1) b) := Hi ⟨hb.ok, by rw [hds]; exact Bk.new (by simp) _ _⟩
 have BW : Hid (Ex w ((w.alloc (.cells cs 36)).alloc (.cells ds 36))) := Hi (Ex.trans (Ex.alloc w _) (Ex.alloc _ _))
 have AI := Hi (ha.ext BW.out)
 have BI := Hi (hb.ext BW.out)
 rw [show (Calls Try.prog 66 #[a.V, b.V] w) = (Calls Try.prog 66 #[.agg cs, .agg ds] w) by rw [hcs, hds]; rfl]
 clear hcs hds ha hb hR
 go_enter Try.func66, Try.ntmps66
 go_wp2_with ((with_reducible refine so3 [2000] ?_ ?_); (focus rfl))
 generalize hw1 : (w.alloc (.cells cs 36)).alloc (.cells ds 36) = w1 at *
 clear hw1
 obtain ⟨B, hB⟩ : ∃ B, B = w.heap.size := ⟨_, rfl⟩
 rw [← hB] at A0 B0 ⊢
 clear hB
 obtain ⟨a4, a21, a22, a23, a40, a41⟩ := A0.out.cells
 obtain ⟨b4, b21, b22, b23, b40, b41⟩ := B0.out.cells
 have CS := Hi (same_any a.sec b.sec w1 AI.out.sec BI.out.sec)
 unfold Pt.V at a21 b21 CS
 refine at9 (by go_simp) fun K0 hK => ld_vid _ _ a rfl rfl A0.out (hK _ _ ?_)
 clear hK
 go_wp2_with ((with_reducible refine so3 [2000] ?_ ?_); (focus rfl))
 refine at9 (by go_simp) fun K0 hK => ld_vid _ _ b rfl rfl B0.out (hK _ _ ?_)
 clear hK
 go_wp2_with ((with_reducible refine so3 [2000] ?_ ?_); (focus rfl))
 refine at9 (by go_simp) fun K0 hK => wp_eql_id _ _ _ rfl a.id b.id A0.out.1.idN B0.out.1.idN rfl rfl (hK _ _ ?_)
 clear hK
 by_cases hid : a.id = b.id
 case neg =>
  rw [decide_eq_false hid]
  go_wp2_with fail
  go_ret
  have e : R = false := by
   cases hR : R with
   | false => rfl
   | true => exact absurd (HD.out.1 hR).1 hid
  exact ⟨congrArg (fun b => Ending.returned (.bool b)) e.symm, BW.out⟩
 rw [decide_eq_true hid]
 have Hid := Hi hid
 clear hid
 go_wp2_with ((with_reducible refine so3 [2000] ?_ ?_); (focus rfl))
 refine at9 (by go_simp) fun K0 hK => wp_eql_u64 _ _ _ rfl a.gen b.gen rfl rfl (hK _ _ ?_)
 clear hK
 by_cases hgen : a.gen = b.gen
 case neg =>
  rw [decide_eq_false hgen]
  go_wp2_with fail
  go_ret
  have e : R = false := by
   cases hR : R with
   | false => rfl
   | true => exact absurd (HD.out.1 hR).2.1 hgen
  exact ⟨congrArg (fun b => Ending.returned (.bool b)) e.symm, BW.out⟩
 rw [decide_eq_true hgen]
 have Hgen := Hi hgen
 clear hgen
 go_wp2_with ((with_reducible refine so3 [2000] ?_ ?_); (focus rfl))
 refine at9 (by go_simp) fun K0 hK => ld_vpin _ _ a rfl rfl A0.out (hK _ _ ?_)
 clear hK
 go_wp2_with ((with_reducible refine so3 [2000] ?_ ?_); (focus rfl))
 refine at9 (by go_simp) fun K0 hK => ld_vpin _ _ b rfl rfl B0.out (hK _ _ ?_)
 clear hK
 go_wp2_with ((with_reducible refine so3 [2000] ?_ ?_); (focus rfl))
 refine at9 (by go_simp) fun K0 hK => wp_eql_dig _ _ _ rfl a.pin b.pin A0.out.1.pinN B0.out.1.pinN rfl rfl (hK _ _ ?_)
 clear hK
 by_cases hpin : a.pin = b.pin
 case neg =>
  rw [decide_eq_false hpin]
  go_wp2_with fail
  go_ret
  have e : R = false := by
   cases hR : R with
   | false => rfl
   | true => exact absurd (HD.out.1 hR).2.2.1 hpin
  exact ⟨congrArg (fun b => Ending.returned (.bool b)) e.symm, BW.out⟩
 rw [decide_eq_true hpin]
 have Hpin := Hi hpin
 clear hpin
 go_wp2_with ((with_reducible refine so3 [2000] ?_ ?_); (focus rfl))
 refine at9 (by go_simp) fun K0 hK => ld_vown _ _ a rfl rfl A0.out (hK _ _ ?_)
 clear hK
 go_wp2_with ((with_reducible refine so3 [2000] ?_ ?_); (focus rfl))
 refine at9 (by go_simp) fun K0 hK => ld_vown _ _ b rfl rfl B0.out (hK _ _ ?_)
 clear hK
 go_wp2_with ((with_reducible refine so3 [2000] ?_ ?_); (focus rfl))
 refine at9 (by go_simp) fun K0 hK => wp_eql_dig _ _ _ rfl a.own b.own A0.out.1.ownN B0.out.1.ownN rfl rfl (hK _ _ ?_)
 clear hK
 by_cases hown : a.own = b.own
 case neg =>
  rw [decide_eq_false hown]
  go_wp2_with fail
  go_ret
  have e : R = false := by
   cases hR : R with
   | false => rfl
   | true => exact absurd (HD.out.1 hR).2.2.2.2.2.2.1 hown
  exact ⟨congrArg (fun b => Ending.returned (.bool b)) e.symm, BW.out⟩
 rw [decide_eq_true hown]
 have Hown := Hi hown
 clear hown
 go_wp2_with ((with_reducible refine so3 [2000] ?_ ?_); (focus rfl))
 refine at9 (by go_simp) fun K0 hK => wp_eql_i64 _ _ _ rfl a.lim b.lim rfl rfl (hK _ _ ?_)
 clear hK
 by_cases hlim : a.lim = b.lim
 case neg =>
  rw [decide_eq_false hlim]
  go_wp2_with fail
  go_ret
  have e : R = false := by
   cases hR : R with
   | false => rfl
   | true => exact absurd (HD.out.1 hR).2.2.2.2.1 hlim
  exact ⟨congrArg (fun b => Ending.returned (.bool b)) e.symm, BW.out⟩
 rw [decide_eq_true hlim]
 have Hlim := Hi hlim
 clear hlim
 go_wp2_with ((with_reducible refine so3 [2000] ?_ ?_); (focus rfl))
 refine at9 (by go_simp) fun K0 hK => wp_eql_i64 _ _ _ rfl a.used b.used rfl rfl (hK _ _ ?_)
 clear hK
 by_cases hused : a.used = b.used
 case neg =>
  rw [decide_eq_false hused]
  go_wp2_with fail
  go_ret
  have e : R = false := by
   cases hR : R with
   | false => rfl
   | true => exact absurd (HD.out.1 hR).2.2.2.2.2.1 hused
  exact ⟨congrArg (fun b => Ending.returned (.bool b)) e.symm, BW.out⟩
 rw [decide_eq_true hused]
 have Hused := Hi hused
 clear hused
 go_wp2_with ((with_reducible refine so3 [2000] ?_ ?_); (focus rfl))
 refine at9 (by go_simp) fun K0 hK => wp_eql_b _ _ _ rfl a.gone b.gone rfl rfl (hK _ _ ?_)
 clear hK
 by_cases hgone : a.gone = b.gone
 case neg =>
  rw [decide_eq_false hgone]
  go_wp2_with fail
  go_ret
  have e : R = false := by
   cases hR : R with
   | false => rfl
   | true => exact absurd (HD.out.1 hR).2.2.2.2.2.2.2.1 hgone
  exact ⟨congrArg (fun b => Ending.returned (.bool b)) e.symm, BW.out⟩
 rw [decide_eq_true hgone]
 have Hgone := Hi hgone
 clear hgone
 go_wp2_with ((with_reducible refine so3 [2000] ?_ ?_); (focus rfl))
 refine at9 (by go_simp) fun K0 hK => wp_eql_b _ _ _ rfl a.wiped b.wiped rfl rfl (hK _ _ ?_)
 clear hK
 by_cases hwiped : a.wiped = b.wiped
 case neg =>
  rw [decide_eq_false hwiped]
  go_wp2_with fail
  go_ret
  have e : R = false := by
   cases hR : R with
   | false => rfl
   | true => exact absurd (HD.out.1 hR).2.2.2.2.2.2.2.2 hwiped
  exact ⟨congrArg (fun b => Ending.returned (.bool b)) e.symm, BW.out⟩
 rw [decide_eq_true hwiped]
 have Hwiped := Hi hwiped
 clear hwiped
 go_wp2_with ((with_reducible refine so3 [2000] ?_ ?_); (focus rfl))
 refine CS.out.mono ?_
 rintro e w2 ⟨rfl, rfl⟩
 clear CS
 by_cases hsec : a.sec.l = b.sec.l
 case neg =>
  rw [decide_eq_false hsec]
  go_wp2_with fail
  go_ret
  have e : R = false := by
   cases hR : R with
   | false => rfl
   | true => exact absurd (HD.out.1 hR).2.2.2.1 hsec
  exact ⟨congrArg (fun b => Ending.returned (.bool b)) e.symm, BW.out⟩
 rw [decide_eq_true hsec]
 have Hsec := Hi hsec
 clear hsec
 go_wp2_with fail
 go_ret
 have e : R = true := HD.out.2 ⟨Hid.out, Hgen.out, Hpin.out, Hsec.out, Hlim.out, Hused.out, Hown.out, Hgone.out, Hwiped.out⟩
 exact ⟨congrArg (fun b => Ending.returned (.bool b)) e.symm, BW.out⟩
set_option maxHeartbeats 4000000 in
set_option maxRecDepth 100000 in
theorem rsame_any (a b : Vt) (w : World) (ha : VI w a) (hb : VI w b) : Calls Try.prog 35 #[a.V, b.V] w fun e w' => e = .returned (.bool (decide (a.ct = b.ct))) ∧ Ex w w' := by
 obtain ⟨R, hR⟩ : ∃ R, R = decide (a.ct = b.ct) := ⟨_, rfl⟩
 have HD : Hid (R = true ↔ (a.id = b.id ∧ a.gen = b.gen ∧ a.pin = b.pin ∧ a.sec.l = b.sec.l ∧ a.lim = b.lim ∧ a.used = b.used ∧ a.own = b.own ∧ a.gone = b.gone ∧ a.wiped = b.wiped)) := Hi (by rw [hR, decide_eq_true_iff, Vc.eq_iff]; exact Iff.rfl)
 rw [← hR]
 obtain ⟨cs, hcs⟩ : ∃ cs, cs = a.C.toArray := ⟨_, rfl⟩
 obtain ⟨ds, hds⟩ : ∃ cs, cs = b.C.toArray := ⟨_, rfl⟩
 have A0 : Hid (VB ((w.alloc (.cells cs 36)).alloc (.cells ds 36)) w.heap.size a) := Hi ⟨ha.ok, by rw [hcs]; exact (Bk.new rfl _ _).more _⟩
 have B0 : Hid (VB ((w.alloc (.cells cs 36)).alloc (.cells ds 36)) (w.heap.size + 1) b) := Hi ⟨hb.ok, by rw [hds]; exact Bk.new (by simp) _ _⟩
 have BW : Hid (Ex w ((w.alloc (.cells cs 36)).alloc (.cells ds 36))) := Hi (Ex.trans (Ex.alloc w _) (Ex.alloc _ _))
 have AI := Hi (ha.ext BW.out)
 have BI := Hi (hb.ext BW.out)
 rw [show (Calls Try.prog 35 #[a.V, b.V] w) = (Calls Try.prog 35 #[.agg cs, .agg ds] w) by rw [hcs, hds]; rfl]
 clear hcs hds ha hb hR
 go_enter Try.func35, Try.ntmps35
 go_wp2_with ((with_reducible refine so3 [2000] ?_ ?_); (focus rfl))
 generalize hw1 : (w.alloc (.cells cs 36)).alloc (.cells ds 36) = w1 at *
 clear hw1
 obtain ⟨B, hB⟩ : ∃ B, B = w.heap.size := ⟨_, rfl⟩
 rw [← hB] at A0 B0 ⊢
 clear hB
 obtain ⟨a4, a21, a22, a23, a40, a41⟩ := A0.out.cells
 obtain ⟨b4, b21, b22, b23, b40, b41⟩ := B0.out.cells
 have c1 := pt_conv a.sec w1 AI.out.sec
 have c2 := pt_conv b.sec w1 BI.out.sec
 have HS := Hi (strL_beq a.sec.l b.sec.l)
 generalize strL a.sec.l = sa at *
 generalize strL b.sec.l = sb at *
 unfold Pt.V at a21 b21
 refine at9 (by go_simp) fun K0 hK => ld_vid _ _ a rfl rfl A0.out (hK _ _ ?_)
 clear hK
 go_wp2_with ((with_reducible refine so3 [2000] ?_ ?_); (focus rfl))
 refine at9 (by go_simp) fun K0 hK => ld_vid _ _ b rfl rfl B0.out (hK _ _ ?_)
 clear hK
 go_wp2_with ((with_reducible refine so3 [2000] ?_ ?_); (focus rfl))
 refine at9 (by go_simp) fun K0 hK => wp_eql_id _ _ _ rfl a.id b.id A0.out.1.idN B0.out.1.idN rfl rfl (hK _ _ ?_)
 clear hK
 by_cases hid : a.id = b.id
 case neg =>
  rw [decide_eq_false hid]
  go_wp2_with fail
  go_ret
  have e : R = false := by
   cases hR : R with
   | false => rfl
   | true => exact absurd (HD.out.1 hR).1 hid
  exact ⟨congrArg (fun b => Ending.returned (.bool b)) e.symm, BW.out⟩
 rw [decide_eq_true hid]
 have Hid := Hi hid
 clear hid
 go_wp2_with ((with_reducible refine so3 [2000] ?_ ?_); (focus rfl))
 refine at9 (by go_simp) fun K0 hK => wp_eql_u64 _ _ _ rfl a.gen b.gen rfl rfl (hK _ _ ?_)
 clear hK
 by_cases hgen : a.gen = b.gen
 case neg =>
  rw [decide_eq_false hgen]
  go_wp2_with fail
  go_ret
  have e : R = false := by
   cases hR : R with
   | false => rfl
   | true => exact absurd (HD.out.1 hR).2.1 hgen
  exact ⟨congrArg (fun b => Ending.returned (.bool b)) e.symm, BW.out⟩
 rw [decide_eq_true hgen]
 have Hgen := Hi hgen
 clear hgen
 go_wp2_with ((with_reducible refine so3 [2000] ?_ ?_); (focus rfl))
 refine at9 (by go_simp) fun K0 hK => ld_vpin _ _ a rfl rfl A0.out (hK _ _ ?_)
 clear hK
 go_wp2_with ((with_reducible refine so3 [2000] ?_ ?_); (focus rfl))
 refine at9 (by go_simp) fun K0 hK => ld_vpin _ _ b rfl rfl B0.out (hK _ _ ?_)
 clear hK
 go_wp2_with ((with_reducible refine so3 [2000] ?_ ?_); (focus rfl))
 refine at9 (by go_simp) fun K0 hK => wp_eql_dig _ _ _ rfl a.pin b.pin A0.out.1.pinN B0.out.1.pinN rfl rfl (hK _ _ ?_)
 clear hK
 by_cases hpin : a.pin = b.pin
 case neg =>
  rw [decide_eq_false hpin]
  go_wp2_with fail
  go_ret
  have e : R = false := by
   cases hR : R with
   | false => rfl
   | true => exact absurd (HD.out.1 hR).2.2.1 hpin
  exact ⟨congrArg (fun b => Ending.returned (.bool b)) e.symm, BW.out⟩
 rw [decide_eq_true hpin]
 have Hpin := Hi hpin
 clear hpin
 go_wp2_with ((with_reducible refine so3 [2000] ?_ ?_); (focus rfl))
 refine at9 (by go_simp) fun K0 hK => wp_eql_s _ _ _ rfl sa sb rfl rfl _ HS.out (hK _ _ ?_)
 clear hK
 clear HS
 by_cases hsec : a.sec.l = b.sec.l
 case neg =>
  rw [decide_eq_false hsec]
  go_wp2_with fail
  go_ret
  have e : R = false := by
   cases hR : R with
   | false => rfl
   | true => exact absurd (HD.out.1 hR).2.2.2.1 hsec
  exact ⟨congrArg (fun b => Ending.returned (.bool b)) e.symm, BW.out⟩
 rw [decide_eq_true hsec]
 have Hsec := Hi hsec
 clear hsec
 go_wp2_with ((with_reducible refine so3 [2000] ?_ ?_); (focus rfl))
 refine at9 (by go_simp) fun K0 hK => wp_eql_i64 _ _ _ rfl a.lim b.lim rfl rfl (hK _ _ ?_)
 clear hK
 by_cases hlim : a.lim = b.lim
 case neg =>
  rw [decide_eq_false hlim]
  go_wp2_with fail
  go_ret
  have e : R = false := by
   cases hR : R with
   | false => rfl
   | true => exact absurd (HD.out.1 hR).2.2.2.2.1 hlim
  exact ⟨congrArg (fun b => Ending.returned (.bool b)) e.symm, BW.out⟩
 rw [decide_eq_true hlim]
 have Hlim := Hi hlim
 clear hlim
 go_wp2_with ((with_reducible refine so3 [2000] ?_ ?_); (focus rfl))
 refine at9 (by go_simp) fun K0 hK => wp_eql_i64 _ _ _ rfl a.used b.used rfl rfl (hK _ _ ?_)
 clear hK
 by_cases hused : a.used = b.used
 case neg =>
  rw [decide_eq_false hused]
  go_wp2_with fail
  go_ret
  have e : R = false := by
   cases hR : R with
   | false => rfl
   | true => exact absurd (HD.out.1 hR).2.2.2.2.2.1 hused
  exact ⟨congrArg (fun b => Ending.returned (.bool b)) e.symm, BW.out⟩
 rw [decide_eq_true hused]
 have Hused := Hi hused
 clear hused
 go_wp2_with ((with_reducible refine so3 [2000] ?_ ?_); (focus rfl))
 refine at9 (by go_simp) fun K0 hK => ld_vown _ _ a rfl rfl A0.out (hK _ _ ?_)
 clear hK
 go_wp2_with ((with_reducible refine so3 [2000] ?_ ?_); (focus rfl))
 refine at9 (by go_simp) fun K0 hK => ld_vown _ _ b rfl rfl B0.out (hK _ _ ?_)
 clear hK
 go_wp2_with ((with_reducible refine so3 [2000] ?_ ?_); (focus rfl))
 refine at9 (by go_simp) fun K0 hK => wp_eql_dig _ _ _ rfl a.own b.own A0.out.1.ownN B0.out.1.ownN rfl rfl (hK _ _ ?_)
 clear hK
 by_cases hown : a.own = b.own
 case neg =>
  rw [decide_eq_false hown]
  go_wp2_with fail
  go_ret
  have e : R = false := by
   cases hR : R with
   | false => rfl
   | true => exact absurd (HD.out.1 hR).2.2.2.2.2.2.1 hown
  exact ⟨congrArg (fun b => Ending.returned (.bool b)) e.symm, BW.out⟩
 rw [decide_eq_true hown]
 have Hown := Hi hown
 clear hown
 go_wp2_with ((with_reducible refine so3 [2000] ?_ ?_); (focus rfl))
 refine at9 (by go_simp) fun K0 hK => wp_eql_b _ _ _ rfl a.gone b.gone rfl rfl (hK _ _ ?_)
 clear hK
 by_cases hgone : a.gone = b.gone
 case neg =>
  rw [decide_eq_false hgone]
  go_wp2_with fail
  go_ret
  have e : R = false := by
   cases hR : R with
   | false => rfl
   | true => exact absurd (HD.out.1 hR).2.2.2.2.2.2.2.1 hgone
  exact ⟨congrArg (fun b => Ending.returned (.bool b)) e.symm, BW.out⟩
 rw [decide_eq_true hgone]
 have Hgone := Hi hgone
 clear hgone
 go_wp2_with ((with_reducible refine so3 [2000] ?_ ?_); (focus rfl))
 refine at9 (by go_simp) fun K0 hK => wp_eql_b _ _ _ rfl a.wiped b.wiped rfl rfl (hK _ _ ?_)
 clear hK
 by_cases hwiped : a.wiped = b.wiped
 case neg =>
  rw [decide_eq_false hwiped]
  go_wp2_with fail
  go_ret
  have e : R = false := by
   cases hR : R with
   | false => rfl
   | true => exact absurd (HD.out.1 hR).2.2.2.2.2.2.2.2 hwiped
  exact ⟨congrArg (fun b => Ending.returned (.bool b)) e.symm, BW.out⟩
 rw [decide_eq_true hwiped]
 have Hwiped := Hi hwiped
 clear hwiped
 go_wp2_with fail
 go_ret
 have e : R = true := HD.out.2 ⟨Hid.out, Hgen.out, Hpin.out, Hsec.out, Hlim.out, Hused.out, Hown.out, Hgone.out, Hwiped.out⟩
 exact ⟨congrArg (fun b => Ending.returned (.bool b)) e.symm, BW.out⟩
end Go.Proofs.Ytmjfnpmnhehnkaa
