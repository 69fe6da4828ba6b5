/- Vg -/
import Derived.Test.YtmjfnpmnhehnkaaXae
namespace Go.Proofs.Ytmjfnpmnhehnkaa
open Go.RowKit
def refuseC (v : Vc) (never : Bool) (q : Qc) : Int :=
 if q.op = 1 ∧ never = false ∧ v.gone = false then 14 else if q.op ≠ 1 ∧ never = true then 22 else if q.op ≠ 1 ∧ v.gone = true then 24
 else if (q.op = 3 ∨ q.op = 4) ∧ q.own ≠ v.own then 25 else if (q.op = 1 ∨ q.op = 3) ∧ v.gen = 1099511627776 then 31 else 0
set_option maxHeartbeats 4000000 in
set_option maxRecDepth 100000 in
theorem refusal_any (v : Vt) (never : Bool) (q : Qt) (w : World) (hv : v.Ok) (hq : q.Ok) (ho : q.op = 1 ∨ q.op = 2 ∨ q.op = 3 ∨ q.op = 4) :
  Calls Try.prog 115 #[v.V, .bool never, q.V] w fun e w' => e = .returned (.int .i64 (refuseC v.ct never q.ct)) ∧ Ex w w' := by
 obtain ⟨z, hz⟩ : ∃ z, z = refuseC v.ct never q.ct := ⟨_, rfl⟩
 rw [← hz]
 have HZ := Hi hz
 clear hz
 unfold refuseC at HZ
 obtain ⟨cs, hcs⟩ : ∃ cs, cs = v.C.toArray := ⟨_, rfl⟩
 obtain ⟨ds, hds⟩ : ∃ cs, cs = q.C.toArray := ⟨_, rfl⟩
 have A0 : Hid (VB ((w.alloc (.cells cs 36)).alloc (.cells ds 86)) w.heap.size v) := Hi ⟨hv, by rw [hcs]; exact (Bk.new rfl _ _).more _⟩
 have B0 : Hid (QB ((w.alloc (.cells cs 36)).alloc (.cells ds 86)) (w.heap.size + 1) q) := Hi ⟨hq, by rw [hds]; exact Bk.new (by simp) _ _⟩
 have BW : Hid (Ex w ((w.alloc (.cells cs 36)).alloc (.cells ds 86))) := Hi (Ex.trans (Ex.alloc w _) (Ex.alloc _ _))
 rw [show (Calls Try.prog 115 #[v.V, .bool never, q.V] w) = (Calls Try.prog 115 #[.agg cs, .bool never, .agg ds] w) by rw [hcs, hds]; rfl]
 clear hcs hds hv hq
 obtain ⟨v4, v21, v22, v23, v40, v41⟩ := A0.out.cells
 obtain ⟨q0, q21, q22, q55, q56⟩ := B0.out.cells
 unfold Pt.V at v21 q21
 obtain ⟨p, hp⟩ : ∃ p, p = q.op := ⟨_, rfl⟩
 rw [show q.ct.op = p from hp.symm] at HZ
 rw [← hp] at q0 ho
 clear hp
 obtain ⟨gn, hgn⟩ : ∃ b, b = v.gone := ⟨_, rfl⟩
 rw [show v.ct.gone = gn from hgn.symm] at HZ
 rw [← hgn] at v40
 clear hgn
 rcases ho with rfl | rfl | rfl | rfl
 ·cases never
  case false =>
   cases gn
   case false =>
    go_enter Try.func115, Try.ntmps115
    go_wp2_with fail
    go_ret
    refine ⟨congrArg (fun n => Ending.returned (.int .i64 n)) (Eq.symm ?_), BW.out⟩
    rw [HZ.out]
    simp
   go_enter Try.func115, Try.ntmps115
   go_wp2_with ((with_reducible refine so2 [2000+24] ?_ ?_); (focus rfl))
   refine at9 (by go_simp) fun K0 hK => wp_eql_u64 _ _ _ rfl v.gen 1099511627776 rfl rfl (hK _ _ ?_)
   clear hK
   by_cases hg : v.gen = 1099511627776
   case pos =>
    have HG := Hi hg
    rw [decide_eq_true hg]
    clear hg
    go_wp2_with fail
    go_ret
    refine ⟨congrArg (fun n => Ending.returned (.int .i64 n)) (Eq.symm ?_), BW.out⟩
    rw [HZ.out]
    have e : v.ct.gen = 1099511627776 := HG.out
    simp [e]
   have HG := Hi hg
   rw [decide_eq_false hg]
   clear hg
   go_wp2_with fail
   go_ret
   refine ⟨congrArg (fun n => Ending.returned (.int .i64 n)) (Eq.symm ?_), BW.out⟩
   rw [HZ.out]
   have e : ¬ v.ct.gen = 1099511627776 := HG.out
   simp [e]
  cases gn
  case false =>
   go_enter Try.func115, Try.ntmps115
   go_wp2_with ((with_reducible refine so2 [2000+24] ?_ ?_); (focus rfl))
   refine at9 (by go_simp) fun K0 hK => wp_eql_u64 _ _ _ rfl v.gen 1099511627776 rfl rfl (hK _ _ ?_)
   clear hK
   by_cases hg : v.gen = 1099511627776
   case pos =>
    have HG := Hi hg
    rw [decide_eq_true hg]
    clear hg
    go_wp2_with fail
    go_ret
    refine ⟨congrArg (fun n => Ending.returned (.int .i64 n)) (Eq.symm ?_), BW.out⟩
    rw [HZ.out]
    have e : v.ct.gen = 1099511627776 := HG.out
    simp [e]
   have HG := Hi hg
   rw [decide_eq_false hg]
   clear hg
   go_wp2_with fail
   go_ret
   refine ⟨congrArg (fun n => Ending.returned (.int .i64 n)) (Eq.symm ?_), BW.out⟩
   rw [HZ.out]
   have e : ¬ v.ct.gen = 1099511627776 := HG.out
   simp [e]
  go_enter Try.func115, Try.ntmps115
  go_wp2_with ((with_reducible refine so2 [2000+24] ?_ ?_); (focus rfl))
  refine at9 (by go_simp) fun K0 hK => wp_eql_u64 _ _ _ rfl v.gen 1099511627776 rfl rfl (hK _ _ ?_)
  clear hK
  by_cases hg : v.gen = 1099511627776
  case pos =>
   have HG := Hi hg
   rw [decide_eq_true hg]
   clear hg
   go_wp2_with fail
   go_ret
   refine ⟨congrArg (fun n => Ending.returned (.int .i64 n)) (Eq.symm ?_), BW.out⟩
   rw [HZ.out]
   have e : v.ct.gen = 1099511627776 := HG.out
   simp [e]
  have HG := Hi hg
  rw [decide_eq_false hg]
  clear hg
  go_wp2_with fail
  go_ret
  refine ⟨congrArg (fun n => Ending.returned (.int .i64 n)) (Eq.symm ?_), BW.out⟩
  rw [HZ.out]
  have e : ¬ v.ct.gen = 1099511627776 := HG.out
  simp [e]
 ·cases never
  case false =>
   cases gn
   case false =>
    go_enter Try.func115, Try.ntmps115
    go_wp2_with fail
    go_ret
    refine ⟨congrArg (fun n => Ending.returned (.int .i64 n)) (Eq.symm ?_), BW.out⟩
    rw [HZ.out]
    simp
   go_enter Try.func115, Try.ntmps115
   go_wp2_with fail
   go_ret
   refine ⟨congrArg (fun n => Ending.returned (.int .i64 n)) (Eq.symm ?_), BW.out⟩
   rw [HZ.out]
   simp
  cases gn
  case false =>
   go_enter Try.func115, Try.ntmps115
   go_wp2_with fail
   go_ret
   refine ⟨congrArg (fun n => Ending.returned (.int .i64 n)) (Eq.symm ?_), BW.out⟩
   rw [HZ.out]
   simp
  go_enter Try.func115, Try.ntmps115
  go_wp2_with fail
  go_ret
  refine ⟨congrArg (fun n => Ending.returned (.int .i64 n)) (Eq.symm ?_), BW.out⟩
  rw [HZ.out]
  simp
 ·cases never
  case false =>
   cases gn
   case false =>
    go_enter Try.func115, Try.ntmps115
    go_wp2_with ((with_reducible refine so2 [2000+24] ?_ ?_); (focus rfl))
    refine at9 (by go_simp) fun K0 hK => ld_qown _ _ q rfl rfl B0.out (hK _ _ ?_)
    clear hK
    go_wp2_with ((with_reducible refine so2 [2000+24] ?_ ?_); (focus rfl))
    refine at9 (by go_simp) fun K0 hK => ld_vown _ _ v rfl rfl A0.out (hK _ _ ?_)
    clear hK
    go_wp2_with ((with_reducible refine so2 [2000+24] ?_ ?_); (focus rfl))
    refine at9 (by go_simp) fun K0 hK => wp_neq_dig _ _ _ rfl q.own v.own B0.out.1.ownN A0.out.1.ownN rfl rfl (hK _ _ ?_)
    clear hK
    by_cases hn : q.own = v.own
    case neg =>
     have HN := Hi hn
     rw [decide_eq_false hn]
     clear hn
     go_wp2_with fail
     go_ret
     refine ⟨congrArg (fun n => Ending.returned (.int .i64 n)) (Eq.symm ?_), BW.out⟩
     rw [HZ.out]
     have e : ¬ q.ct.own = v.ct.own := HN.out
     simp [e]
    have HN := Hi hn
    rw [decide_eq_true hn]
    clear hn
    go_wp2_with ((with_reducible refine so2 [2000+24] ?_ ?_); (focus rfl))
    have eo : Hid (q.ct.own = v.ct.own) := Hi HN.out
    refine at9 (by go_simp) fun K0 hK => wp_eql_u64 _ _ _ rfl v.gen 1099511627776 rfl rfl (hK _ _ ?_)
    clear hK
    by_cases hg : v.gen = 1099511627776
    case pos =>
     have HG := Hi hg
     rw [decide_eq_true hg]
     clear hg
     go_wp2_with fail
     go_ret
     refine ⟨congrArg (fun n => Ending.returned (.int .i64 n)) (Eq.symm ?_), BW.out⟩
     rw [HZ.out]
     have e : v.ct.gen = 1099511627776 := HG.out
     simp [e, eo.out]
    have HG := Hi hg
    rw [decide_eq_false hg]
    clear hg
    go_wp2_with fail
    go_ret
    refine ⟨congrArg (fun n => Ending.returned (.int .i64 n)) (Eq.symm ?_), BW.out⟩
    rw [HZ.out]
    have e : ¬ v.ct.gen = 1099511627776 := HG.out
    simp [e, eo.out]
   go_enter Try.func115, Try.ntmps115
   go_wp2_with fail
   go_ret
   refine ⟨congrArg (fun n => Ending.returned (.int .i64 n)) (Eq.symm ?_), BW.out⟩
   rw [HZ.out]
   simp
  cases gn
  case false =>
   go_enter Try.func115, Try.ntmps115
   go_wp2_with fail
   go_ret
   refine ⟨congrArg (fun n => Ending.returned (.int .i64 n)) (Eq.symm ?_), BW.out⟩
   rw [HZ.out]
   simp
  go_enter Try.func115, Try.ntmps115
  go_wp2_with fail
  go_ret
  refine ⟨congrArg (fun n => Ending.returned (.int .i64 n)) (Eq.symm ?_), BW.out⟩
  rw [HZ.out]
  simp
 cases never
 case false =>
  cases gn
  case false =>
   go_enter Try.func115, Try.ntmps115
   go_wp2_with ((with_reducible refine so2 [2000+24] ?_ ?_); (focus rfl))
   refine at9 (by go_simp) fun K0 hK => ld_qown _ _ q rfl rfl B0.out (hK _ _ ?_)
   clear hK
   go_wp2_with ((with_reducible refine so2 [2000+24] ?_ ?_); (focus rfl))
   refine at9 (by go_simp) fun K0 hK => ld_vown _ _ v rfl rfl A0.out (hK _ _ ?_)
   clear hK
   go_wp2_with ((with_reducible refine so2 [2000+24] ?_ ?_); (focus rfl))
   refine at9 (by go_simp) fun K0 hK => wp_neq_dig _ _ _ rfl q.own v.own B0.out.1.ownN A0.out.1.ownN rfl rfl (hK _ _ ?_)
   clear hK
   by_cases hn : q.own = v.own
   case neg =>
    have HN := Hi hn
    rw [decide_eq_false hn]
    clear hn
    go_wp2_with fail
    go_ret
    refine ⟨congrArg (fun n => Ending.returned (.int .i64 n)) (Eq.symm ?_), BW.out⟩
    rw [HZ.out]
    have e : ¬ q.ct.own = v.ct.own := HN.out
    simp [e]
   have HN := Hi hn
   rw [decide_eq_true hn]
   clear hn
   go_wp2_with fail
   go_ret
   refine ⟨congrArg (fun n => Ending.returned (.int .i64 n)) (Eq.symm ?_), BW.out⟩
   rw [HZ.out]
   have e : q.ct.own = v.ct.own := HN.out
   simp [e]
  go_enter Try.func115, Try.ntmps115
  go_wp2_with fail
  go_ret
  refine ⟨congrArg (fun n => Ending.returned (.int .i64 n)) (Eq.symm ?_), BW.out⟩
  rw [HZ.out]
  simp
 cases gn
 case false =>
  go_enter Try.func115, Try.ntmps115
  go_wp2_with fail
  go_ret
  refine ⟨congrArg (fun n => Ending.returned (.int .i64 n)) (Eq.symm ?_), BW.out⟩
  rw [HZ.out]
  simp
 go_enter Try.func115, Try.ntmps115
 go_wp2_with fail
 go_ret
 refine ⟨congrArg (fun n => Ending.returned (.int .i64 n)) (Eq.symm ?_), BW.out⟩
 rw [HZ.out]
 simp
theorem Vc.left_in (c : Vc) : 0 ≤ c.left ∧ c.left ≤ 32 := by
 unfold Vc.left
 split
 ·omega
 rename_i hg
 split
 ·rename_i hr
  unfold Vc.right at hr
  rw [if_neg hg] at hr
  simp only [Bool.and_eq_true, decide_eq_true_eq] at hr
  omega
 omega
def VN (w : World) (B : Nat) (v : Vt) : Prop := v.Ok ∧ PN w B v.sec
theorem VN.vi {w : World} {B : Nat} {v : Vt} (h : VN w B v) : VI w v := ⟨h.1, h.2.1⟩
theorem VN.ext {w w' : World} {B : Nat} {v : Vt} (h : VN w B v) (k : Ex w w') : VN w' B v := ⟨h.1, h.2.ext k⟩
theorem VN.only {w w' : World} {B g : Nat} {v : Vt} (h : VN w B v) (ho : Only g w w') (hg : g < B) : VN w' B v := ⟨h.1, h.2.only ho hg⟩
/-- a vault whose secret lies between two places -/
structure VS (w : World) (lo hi : Nat) (v : Vt) : Prop where
 ok : v.Ok
 sec : v.sec.In w hi
 frm : ∀ a, v.sec.ad = some a → lo ≤ a.block ∧ a.block < hi
 typ : ∀ a, v.sec.ad = some a → ∃ cs, Bk w a.block 5 cs
 le : hi ≤ w.heap.size
theorem VN.vs {w : World} {B : Nat} {v : Vt} (h : VN w B v) : VS w B w.heap.size v := ⟨h.1, h.2.1, fun a e => ⟨(h.2.2 a e).1, (h.2.2 a e).2.elim fun _ hc => hc.lt⟩, fun a e => (h.2.2 a e).2, Nat.le_refl _⟩
theorem VS.vn {w : World} {lo hi : Nat} {v : Vt} (h : VS w lo hi v) : VN w lo v := ⟨h.ok, h.sec.more h.le, fun a e => ⟨(h.frm a e).1, h.typ a e⟩⟩
theorem VS.ext {w w' : World} {lo hi : Nat} {v : Vt} (h : VS w lo hi v) (k : Ex w w') : VS w' lo hi v := ⟨h.ok, h.sec.keep (k.mono h.le), h.frm, fun a e => (h.typ a e).elim fun cs hc => ⟨cs, hc.ext k⟩, Nat.le_trans h.le k.size⟩
theorem VS.only {w w' : World} {lo hi g : Nat} {v : Vt} (h : VS w lo hi v) (ho : Only g w w') (hg : g < lo ∨ hi ≤ g) : VS w' lo hi v :=
 ⟨h.ok, h.sec.only ho (fun a e => by have := h.frm a e; omega), h.frm, fun a e => (h.typ a e).elim fun cs hc => ⟨cs, ho.bk hc (by have := h.frm a e; omega)⟩, by rw [ho.size]; exact h.le⟩
theorem VS.used {w : World} {lo hi : Nat} {v : Vt} (h : VS w lo hi v) (n : Int) (n0 : -9223372036854775808 ≤ n) (n1 : n ≤ 9223372036854775807) : VS w lo hi { v with used := n } := ⟨{ h.ok with used0 := n0, used1 := n1 }, h.sec, h.frm, h.typ, h.le⟩
theorem VS.gone {w : World} {lo hi : Nat} {id : List UInt8} {g : Int} {wi : Bool} (h : id.length = 4) (g0 : 0 ≤ g) (g1 : g < 18446744073709551616) (k : hi ≤ w.heap.size) : VS w lo hi (goneVt id g wi) := ⟨goneVt_ok h g0 g1, nilB_in _ _, (fun a e => by cases e), (fun a e => by cases e), k⟩
theorem Md.new {g h : Nat} {w w1 w2 : World} (k : Md g w w1) (ho : Only h w1 w2) (hh : w.heap.size ≤ h) (hg : g < w.heap.size) : Md g w w2 :=
 ⟨fun B hB a ha => ho.below B (by omega) a (k.below B hB a ha), fun i hi hl => (ho.other i (by omega)).trans (k.other i hi hl), by rw [ho.size]; exact k.size⟩
def DB (w : World) (g : Nat) (X : List UInt8) : Prop := X.length = 16 ∧ Bk w g 34 (Lib.byteCells X).toArray
theorem DB.ext {w w' : World} {g : Nat} {X : List UInt8} (h : DB w g X) (k : Ex w w') : DB w' g X := ⟨h.1, h.2.ext k⟩
theorem ld_d {o : Oper} {a : Act} {w : World} {K : Act → World → Prop} {Q : Exit → Act → World → Prop} (x : Operand) (g : Nat) (X : List UInt8) (ho : o.op = .load 34 x) (ha : a.eval x = .pointer (some ⟨g, 0, none⟩)) (h : DB w g X) (hk : K (a.put o.dst (digV X)) w) : o.wp Try.prog a w K Q := by
 obtain ⟨dd, hd⟩ : ∃ d, Try.prog.underlying 34 = some d ∧ d.isRow = true := ⟨_, Try.underlying34, rfl⟩
 exact wp_ldp (C := Lib.byteCells X) (Lib.byteCells X) x g 0 dd ho ha h.2 (by simp) hd.1 hd.2 (by rw [Try.sizeDig, byteCells_len, h.1]) hk
def wrongC (v : Vc) : Vc := if v.used + 1 = v.lim then goneC v.id v.gen true else { v with used := v.used + 1 }
def guessC (v : Vc) (pin : List UInt8) (r : Rc) : Vc × Rc × Bool := if pin = v.pin then (v, { r with sec := v.sec, left := v.left }, false) else (wrongC v, { r with why := 23, left := (wrongC v).left }, true)
def freshC (v : Vc) (q : Qc) : Vc := ⟨q.id, v.gen + 1, q.pin, q.sec, q.lim, 0, q.own, false, false⟩
def actC (v : Vc) (q : Qc) (r : Rc) : Vc × Rc × Bool := if q.op = 2 then guessC v q.pin r else if q.op = 4 then (goneC v.id v.gen false, r, true) else (freshC v q, { r with left := (freshC v q).left }, true)
def APost (g : Nat) (C : Vc × Rc × Bool) (w : World) (e : Ending) (w' : World) : Prop := ∃ (v' : Vt) (r' : Rt) (b : Bool), e = .returned (.tuple #[v'.V, .bool b]) ∧ (v'.ct, r'.ct, b) = C ∧ RB w' g r' ∧ VN w' (g + 1) v' ∧ PN w' (g + 1) r'.sec ∧ Md g w w'
set_option maxHeartbeats 4000000 in
set_option maxRecDepth 100000 in
theorem guess_any (v : Vt) (pin : List UInt8) (g : Nat) (r : Rt) (w : World) (hp : pin.length = 16) (hv : VN w (g + 1) v) (hr : RB w g r) (hrs : r.sec = nilB) (hL : v.sec.l.length ≤ 64) (hb : 0 ≤ v.used ∧ v.used < v.lim ∧ v.lim ≤ 32) :
  Calls Try.prog 140 #[v.V, digV pin, .pointer (some ⟨g, 0, none⟩)] w (APost g (guessC v.ct pin r.ct) w) := by
 have HRN := Hi hrs
 have CC := Hi (fun w1 (k : Ex w w1) => bclone_any v.sec (by omega) w1 (hv.ext k).2.1)
 have CL := Hi (fun (u : Vt) w1 (k : VI w1 u) => left_any u w1 k)
 have HP := Hi hp
 have HR := Hi hr
 have HV := Hi hv.vs
 have HLT := Hi hr.lt
 have HOK := Hi hv.1
 have HB9 := Hi hb
 obtain ⟨cs, hcs⟩ : ∃ cs, cs = v.C.toArray := ⟨_, rfl⟩
 obtain ⟨ds, hds⟩ : ∃ cs, cs = (Lib.byteCells pin).toArray := ⟨_, rfl⟩
 have A0 : Hid (VB (((w.alloc (.cells cs 36)).alloc (.cells ds 34)).alloc (.cells zeroVt.C.toArray 36)) w.heap.size v) := Hi ⟨hv.1, by rw [hcs]; exact ((Bk.new rfl _ _).more _).more _⟩
 have D0 : Hid (DB (((w.alloc (.cells cs 36)).alloc (.cells ds 34)).alloc (.cells zeroVt.C.toArray 36)) (w.heap.size + 1) pin) := Hi ⟨hp, by rw [hds]; exact (Bk.new (by simp) _ _).more _⟩
 have Z0 : Hid (VB (((w.alloc (.cells cs 36)).alloc (.cells ds 34)).alloc (.cells zeroVt.C.toArray 36)) (w.heap.size + 2) zeroVt) := Hi ⟨zeroVt_ok, Bk.new (by simp) _ _⟩
 have BW : Hid (Ex w (((w.alloc (.cells cs 36)).alloc (.cells ds 34)).alloc (.cells zeroVt.C.toArray 36))) := Hi (Ex.trans (Ex.alloc w _) (Ex.trans (Ex.alloc _ _) (Ex.alloc _ _)))
 rw [show (Calls Try.prog 140 #[v.V, digV pin, .pointer (some ⟨g, 0, none⟩)] w) = (Calls Try.prog 140 #[.agg cs, .agg ds, .pointer (some ⟨g, 0, none⟩)] w) by rw [hcs, hds]; rfl]
 clear hcs hds hv hp hr hrs hL hb
 go_enter Try.func140, Try.ntmps140
 go_wp2_with ((with_reducible refine so2 [1000+25, 1000+3, 1000+45, 2000+3] ?_ ?_); (focus rfl))
 (with_reducible refine ⟨?_⟩)
 change wpList _ _ _ _ _ (((w.alloc (.cells cs 36)).alloc (.cells ds 34)).alloc (.cells zeroVt.C.toArray 36))
 generalize hw1 : (((w.alloc (.cells cs 36)).alloc (.cells ds 34)).alloc (.cells zeroVt.C.toArray 36)) = w1 at *
 clear hw1
 obtain ⟨B, hB⟩ : ∃ B, B = w.heap.size := ⟨_, rfl⟩
 rw [← hB] at A0 D0 Z0 HLT HV ⊢
 have HB := Hi hB
 clear hB
 have R0 := Hi (HR.out.ext BW.out)
 have M0 := Hi (Ex.md (g := g) BW.out (by rw [← HB.out]; have := HLT.out; omega))
 have V0 := Hi (HV.out.ext BW.out)
 go_wp2_with ((with_reducible refine so2 [1000+25, 1000+3, 1000+45, 2000+3] ?_ ?_); (focus rfl))
 refine at9 (by go_simp) fun K0 hK => ld_d _ _ pin rfl rfl D0.out (hK _ _ ?_)
 clear hK
 go_wp2_with ((with_reducible refine so2 [1000+25, 1000+3, 1000+45, 2000+3] ?_ ?_); (focus rfl))
 refine at9 (by go_simp) fun K0 hK => ld_vpin _ _ v rfl rfl A0.out (hK _ _ ?_)
 clear hK
 go_wp2_with ((with_reducible refine so2 [1000+25, 1000+3, 1000+45, 2000+3] ?_ ?_); (focus rfl))
 refine at9 (by go_simp) fun K0 hK => wp_eql_dig _ _ _ rfl pin v.pin HP.out HOK.out.pinN rfl rfl (hK _ _ ?_)
 clear hK
 by_cases hpin : pin = v.pin
 case pos =>
  rw [decide_eq_true hpin]
  have HPN := Hi hpin
  clear hpin
  obtain ⟨a4, a21, a22, a23, a40, a41⟩ := A0.out.cells
  unfold Pt.V at a21 CC
  go_wp2_with ((with_reducible refine so2 [1000+25, 1000+3, 1000+45, 2000+3] ?_ ?_); (focus rfl))
  refine (CC.out _ BW.out).mono ?_
  rintro e w2 ⟨p, rfl, hpl, hpi, x2⟩
  have S0 := Hi (hpi.less (show B + 3 ≤ w1.heap.size from Z0.out.lt))
  have HPL := Hi hpl
  clear CC a4 a21 a22 a23 a40 a41 D0 hpl hpi
  replace A0 := Hi (A0.out.ext x2)
  replace Z0 := Hi (Z0.out.ext x2)
  replace V0 := Hi (V0.out.ext x2)
  replace M0 := Hi (M0.out.trans (x2.md (by have := R0.out.lt; omega)))
  replace R0 := Hi (R0.out.ext x2)
  clear x2
  go_wp2_with ((with_reducible refine so2 [1000+25, 1000+3, 1000+45, 2000+3] ?_ ?_); (focus rfl))
  refine at9 (by go_simp) fun K0 hK => st_rsec (by kernel_rfl) _ _ g r p rfl rfl rfl R0.out (fun w3 hd ho => hK _ _ ?_)
  clear hK
  replace A0 := Hi (ho.vb A0.out (by have := HLT.out; omega))
  replace Z0 := Hi (ho.vb Z0.out (by have := HLT.out; omega))
  replace R0 := Hi hd
  replace V0 := Hi (V0.out.only ho (by have := HLT.out; omega))
  replace S0 := Hi (S0.out.only ho (by have := HLT.out; omega))
  replace M0 := Hi (M0.out.trans ho.md)
  clear hd ho
  go_wp2_with ((with_reducible refine so2 [1000+25, 1000+3, 1000+45, 2000+3] ?_ ?_); (focus rfl))
  refine at9 (by go_simp) fun K0 hK => ld_v _ _ (v) rfl rfl A0.out (hK _ _ ?_)
  clear hK
  go_wp2_with ((with_reducible refine so2 [1000+25, 1000+3, 1000+45, 2000+3] ?_ ?_); (focus rfl))
  refine (CL.out (v) _ V0.out.vn.vi).mono ?_
  rintro e w7 ⟨rfl, x7⟩
  clear CL
  replace A0 := Hi (A0.out.ext x7)
  replace Z0 := Hi (Z0.out.ext x7)
  replace V0 := Hi (V0.out.ext x7)
  replace M0 := Hi (M0.out.trans (x7.md (by have := R0.out.lt; omega)))
  replace R0 := Hi (R0.out.ext x7)
  replace S0 := Hi (S0.out.ext x7)
  clear x7
  go_wp2_with ((with_reducible refine so2 [1000+25, 1000+3, 1000+45, 2000+3] ?_ ?_); (focus rfl))
  refine at9 (by go_simp) fun K0 hK => st_rleft (by kernel_rfl) _ _ g ({ r with sec := p }) (Vt.ct (v)).left rfl rfl rfl (by have := (Vt.ct (v)).left_in; omega) (by have := (Vt.ct (v)).left_in; omega) R0.out (fun w8 hd ho => hK _ _ ?_)
  clear hK
  replace A0 := Hi (ho.vb A0.out (by have := HLT.out; omega))
  replace Z0 := Hi (ho.vb Z0.out (by have := HLT.out; omega))
  replace R0 := Hi hd
  replace V0 := Hi (V0.out.only ho (by have := HLT.out; omega))
  replace S0 := Hi (S0.out.only ho (by have := HLT.out; omega))
  replace M0 := Hi (M0.out.trans ho.md)
  clear hd ho
  go_wp2_with ((with_reducible refine so2 [1000+25, 1000+3, 1000+45, 2000+3] ?_ ?_); (focus rfl))
  refine at9 (by go_simp) fun K0 hK => ld_v _ _ (v) rfl rfl A0.out (hK _ _ ?_)
  clear hK
  go_wp2_with ((with_reducible refine so2 [1000+25, 1000+3, 1000+45, 2000+3] ?_ ?_); (focus rfl))
  refine at9 (by go_simp) fun K0 hK => st_v _ _ (B + 2) (v) rfl rfl rfl HOK.out Z0.out.2 (by rw [List.size_toArray, Vt.len Z0.out.1]) (fun w9 hd ho => hK _ _ ?_)
  clear hK
  replace A0 := Hi (ho.vb A0.out (by have := HLT.out; omega))
  replace Z0 := Hi hd
  replace R0 := Hi (ho.rb R0.out (by have := HLT.out; omega))
  replace V0 := Hi (V0.out.only ho (by have := HLT.out; omega))
  replace S0 := Hi (S0.out.only ho (by have := HLT.out; omega))
  replace M0 := Hi (M0.out.new ho (by rw [← HB.out]; omega) (by rw [← HB.out]; exact HLT.out))
  clear hd ho
  go_wp2_with fail
  refine bodyPost_ret (res_v2 rfl _ _ (B + 2) rfl (v) Z0.out) rfl ⟨v, _, false, rfl, ?_, R0.out, V0.out.vn, S0.out.less (by have := HLT.out; omega), M0.out⟩
  unfold guessC Vt.ct Rt.ct
  rw [if_pos HPN.out, HPL.out]
 rw [decide_eq_false hpin]
 have HPN := Hi hpin
 clear hpin CC D0
 go_wp2_with ((with_reducible refine so2 [1000+25, 1000+3, 1000+45, 2000+3] ?_ ?_); (focus rfl))
 refine at9 (by go_simp) fun K0 hK => st_rwhy (by kernel_rfl) _ _ g r 23 rfl rfl rfl (by decide) (by decide) R0.out (fun w3 hd ho => hK _ _ ?_)
 clear hK
 replace A0 := Hi (ho.vb A0.out (by have := HLT.out; omega))
 replace Z0 := Hi (ho.vb Z0.out (by have := HLT.out; omega))
 replace R0 := Hi hd
 replace V0 := Hi (V0.out.only ho (by have := HLT.out; omega))
 replace M0 := Hi (M0.out.trans ho.md)
 clear hd ho
 obtain ⟨a4, a21, a22, a23, a40, a41⟩ := A0.out.cells
 obtain ⟨b0, b1, b2⟩ := HB9.out
 go_wp2_with ((with_reducible refine so2 [1000+25, 1000+3, 1000+45, 2000+3] ?_ ?_); (focus rfl))
 refine at9 (by go_simp) fun K0 hK => st_vused (by kernel_rfl) _ _ B v (v.used + 1) rfl rfl rfl (by omega) (by omega) A0.out (fun w4 hd ho => hK _ _ ?_)
 clear hK
 clear a4 a21 a22 a23 a40 a41
 replace A0 := Hi hd
 replace Z0 := Hi (ho.vb Z0.out (by have := HLT.out; omega))
 replace R0 := Hi (ho.rb R0.out (by have := HLT.out; omega))
 replace V0 := Hi (V0.out.only ho (by have := HLT.out; omega))
 replace M0 := Hi (M0.out.new ho (by rw [← HB.out]; omega) (by rw [← HB.out]; exact HLT.out))
 clear hd ho
 replace V0 := Hi (V0.out.used (v.used + 1) (by omega) (by omega))
 obtain ⟨a4, a21, a22, a23, a40, a41⟩ := A0.out.cells
 go_wp2_with ((with_reducible refine so2 [1000+25, 1000+3, 1000+45, 2000+3] ?_ ?_); (focus rfl))
 refine at9 (by go_simp) fun K0 hK => wp_eql_i64 _ _ _ rfl (v.used + 1) v.lim rfl rfl (hK _ _ ?_)
 clear hK
 by_cases hl : v.used + 1 = v.lim
 case pos =>
  rw [decide_eq_true hl]
  have HL := Hi hl
  clear hl
  go_wp2_with ((with_reducible refine so2 [1000+25, 1000+3, 1000+45, 2000+3] ?_ ?_); (focus rfl))
  refine at9 (by go_simp) fun K0 hK => ld_vid _ _ { v with used := v.used + 1 } rfl rfl A0.out (hK _ _ ?_)
  clear hK
  go_wp2_with ((with_reducible refine so2 [1000+25, 1000+3, 1000+45, 2000+3] ?_ ?_); (focus rfl))
  refine at9 (by go_simp) fun K0 hK => wp_build _ _ rfl _ (built_gone v.id v.gen true HOK.out.idN) (hK _ _ ?_)
  clear hK
  go_wp2_with ((with_reducible refine so2 [1000+25, 1000+3, 1000+45, 2000+3] ?_ ?_); (focus rfl))
  refine at9 (by go_simp) fun K0 hK => st_v _ _ B (goneVt v.id v.gen true) rfl rfl rfl (goneVt_ok HOK.out.idN HOK.out.gen0 HOK.out.gen1) A0.out.2 (by rw [List.size_toArray, Vt.len A0.out.1]) (fun w5 hd ho => hK _ _ ?_)
  clear hK
  clear a4 a21 a22 a23 a40 a41
  replace A0 := Hi hd
  replace Z0 := Hi (ho.vb Z0.out (by have := HLT.out; omega))
  replace R0 := Hi (ho.rb R0.out (by have := HLT.out; omega))
  replace V0 := Hi (V0.out.only ho (by have := HLT.out; omega))
  replace M0 := Hi (M0.out.new ho (by rw [← HB.out]; omega) (by rw [← HB.out]; exact HLT.out))
  clear hd ho
  replace V0 := Hi (VS.gone (lo := g + 1) (hi := B) (id := v.id) (g := v.gen) (wi := true) HOK.out.idN HOK.out.gen0 HOK.out.gen1 V0.out.le)
  go_wp2_with ((with_reducible refine so2 [1000+25, 1000+3, 1000+45, 2000+3] ?_ ?_); (focus rfl))
  refine at9 (by go_simp) fun K0 hK => ld_v _ _ (goneVt v.id v.gen true) rfl rfl A0.out (hK _ _ ?_)
  clear hK
  go_wp2_with ((with_reducible refine so2 [1000+25, 1000+3, 1000+45, 2000+3] ?_ ?_); (focus rfl))
  refine (CL.out (goneVt v.id v.gen true) _ V0.out.vn.vi).mono ?_
  rintro e w7 ⟨rfl, x7⟩
  clear CL
  replace A0 := Hi (A0.out.ext x7)
  replace Z0 := Hi (Z0.out.ext x7)
  replace V0 := Hi (V0.out.ext x7)
  replace M0 := Hi (M0.out.trans (x7.md (by have := R0.out.lt; omega)))
  replace R0 := Hi (R0.out.ext x7)
  clear x7
  go_wp2_with ((with_reducible refine so2 [1000+25, 1000+3, 1000+45, 2000+3] ?_ ?_); (focus rfl))
  refine at9 (by go_simp) fun K0 hK => st_rleft (by kernel_rfl) _ _ g ({ r with why := 23 }) (Vt.ct (goneVt v.id v.gen true)).left rfl rfl rfl (by have := (Vt.ct (goneVt v.id v.gen true)).left_in; omega) (by have := (Vt.ct (goneVt v.id v.gen true)).left_in; omega) R0.out (fun w8 hd ho => hK _ _ ?_)
  clear hK
  replace A0 := Hi (ho.vb A0.out (by have := HLT.out; omega))
  replace Z0 := Hi (ho.vb Z0.out (by have := HLT.out; omega))
  replace R0 := Hi hd
  replace V0 := Hi (V0.out.only ho (by have := HLT.out; omega))
  replace M0 := Hi (M0.out.trans ho.md)
  clear hd ho
  go_wp2_with ((with_reducible refine so2 [1000+25, 1000+3, 1000+45, 2000+3] ?_ ?_); (focus rfl))
  refine at9 (by go_simp) fun K0 hK => ld_v _ _ (goneVt v.id v.gen true) rfl rfl A0.out (hK _ _ ?_)
  clear hK
  go_wp2_with ((with_reducible refine so2 [1000+25, 1000+3, 1000+45, 2000+3] ?_ ?_); (focus rfl))
  refine at9 (by go_simp) fun K0 hK => st_v _ _ (B + 2) (goneVt v.id v.gen true) rfl rfl rfl (goneVt_ok HOK.out.idN HOK.out.gen0 HOK.out.gen1) Z0.out.2 (by rw [List.size_toArray, Vt.len Z0.out.1]) (fun w9 hd ho => hK _ _ ?_)
  clear hK
  replace A0 := Hi (ho.vb A0.out (by have := HLT.out; omega))
  replace Z0 := Hi hd
  replace R0 := Hi (ho.rb R0.out (by have := HLT.out; omega))
  replace V0 := Hi (V0.out.only ho (by have := HLT.out; omega))
  replace M0 := Hi (M0.out.new ho (by rw [← HB.out]; omega) (by rw [← HB.out]; exact HLT.out))
  clear hd ho
  go_wp2_with fail
  refine bodyPost_ret (res_v2 rfl _ _ (B + 2) rfl (goneVt v.id v.gen true) Z0.out) rfl ⟨goneVt v.id v.gen true, _, true, rfl, ?_, R0.out, V0.out.vn, (by show PN _ _ r.sec; rw [HRN.out]; exact nilB_pn _ _), M0.out⟩
  unfold guessC
  rw [if_neg (show ¬ pin = v.ct.pin from HPN.out)]
  have e : wrongC v.ct = (goneVt v.id v.gen true).ct := if_pos HL.out
  rw [e]; rfl
 rw [decide_eq_false hl]
 have HL := Hi hl
 clear hl a4 a21 a22 a23 a40 a41
 go_wp2_with ((with_reducible refine so2 [1000+25, 1000+3, 1000+45, 2000+3] ?_ ?_); (focus rfl))
 refine at9 (by go_simp) fun K0 hK => ld_v _ _ ({ v with used := v.used + 1 }) rfl rfl A0.out (hK _ _ ?_)
 clear hK
 go_wp2_with ((with_reducible refine so2 [1000+25, 1000+3, 1000+45, 2000+3] ?_ ?_); (focus rfl))
 refine (CL.out ({ v with used := v.used + 1 }) _ V0.out.vn.vi).mono ?_
 rintro e w7 ⟨rfl, x7⟩
 clear CL
 replace A0 := Hi (A0.out.ext x7)
 replace Z0 := Hi (Z0.out.ext x7)
 replace V0 := Hi (V0.out.ext x7)
 replace M0 := Hi (M0.out.trans (x7.md (by have := R0.out.lt; omega)))
 replace R0 := Hi (R0.out.ext x7)
 clear x7
 go_wp2_with ((with_reducible refine so2 [1000+25, 1000+3, 1000+45, 2000+3] ?_ ?_); (focus rfl))
 refine at9 (by go_simp) fun K0 hK => st_rleft (by kernel_rfl) _ _ g ({ r with why := 23 }) (Vt.ct ({ v with used := v.used + 1 })).left rfl rfl rfl (by have := (Vt.ct ({ v with used := v.used + 1 })).left_in; omega) (by have := (Vt.ct ({ v with used := v.used + 1 })).left_in; omega) R0.out (fun w8 hd ho => hK _ _ ?_)
 clear hK
 replace A0 := Hi (ho.vb A0.out (by have := HLT.out; omega))
 replace Z0 := Hi (ho.vb Z0.out (by have := HLT.out; omega))
 replace R0 := Hi hd
 replace V0 := Hi (V0.out.only ho (by have := HLT.out; omega))
 replace M0 := Hi (M0.out.trans ho.md)
 clear hd ho
 go_wp2_with ((with_reducible refine so2 [1000+25, 1000+3, 1000+45, 2000+3] ?_ ?_); (focus rfl))
 refine at9 (by go_simp) fun K0 hK => ld_v _ _ ({ v with used := v.used + 1 }) rfl rfl A0.out (hK _ _ ?_)
 clear hK
 go_wp2_with ((with_reducible refine so2 [1000+25, 1000+3, 1000+45, 2000+3] ?_ ?_); (focus rfl))
 refine at9 (by go_simp) fun K0 hK => st_v _ _ (B + 2) ({ v with used := v.used + 1 }) rfl rfl rfl A0.out.1 Z0.out.2 (by rw [List.size_toArray, Vt.len Z0.out.1]) (fun w9 hd ho => hK _ _ ?_)
 clear hK
 replace A0 := Hi (ho.vb A0.out (by have := HLT.out; omega))
 replace Z0 := Hi hd
 replace R0 := Hi (ho.rb R0.out (by have := HLT.out; omega))
 replace V0 := Hi (V0.out.only ho (by have := HLT.out; omega))
 replace M0 := Hi (M0.out.new ho (by rw [← HB.out]; omega) (by rw [← HB.out]; exact HLT.out))
 clear hd ho
 go_wp2_with fail
 refine bodyPost_ret (res_v2 rfl _ _ (B + 2) rfl ({ v with used := v.used + 1 }) Z0.out) rfl ⟨{ v with used := v.used + 1 }, _, true, rfl, ?_, R0.out, V0.out.vn, (by show PN _ _ r.sec; rw [HRN.out]; exact nilB_pn _ _), M0.out⟩
 unfold guessC
 rw [if_neg (show ¬ pin = v.ct.pin from HPN.out)]
 have e : wrongC v.ct = Vt.ct { v with used := v.used + 1 } := if_neg HL.out
 rw [e]; rfl
end Go.Proofs.Ytmjfnpmnhehnkaa
