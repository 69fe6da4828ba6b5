/- Uj, Uk, Vz, FlC, FlE, Vy, Vlf, Tj, Ul, Wf, Wb, Wc, Wd, Un -/
import Derived.Test.YtmjfnpmnhehnkaaPaq
import Derived.Lib.SlBytesConst
namespace Go.Proofs.Ytmjfnpmnhehnkaa
open Go.RowKit
/-- a block of another type stays when a table is turned -/
theorem Tc.obj9 {w w' : World} {D : Nat} {rv : Value} {vs : List Vt} (k : Tc D rv.ownBlock w w') (ht : TB w D rv vs) {g : Nat} {t : TypeId} {cs : Array Value} {fr : Nat × Nat} (hb : w.heap[g]? = some (.cells cs t fr)) (h1 : t ≠ 169) (h2 : t ≠ 36) : w'.heap[g]? = some (.cells cs t fr) := by
 refine (k.block g (Array.getElem?_eq_some_iff.1 hb).1 (fun e => ?_) (fun e => ?_)).trans hb
 ·subst e
  have h3 := ht.blk
  unfold Bk at h3; rw [hb] at h3; exact h1 (Obj.cells.inj (Option.some.inj h3)).2.1
 rcases ht.row.blk with h3 | ⟨gb, h3, _, _, cs2, hb2⟩
 ·rw [h3] at e; cases e
 rw [h3] at e; cases e
 unfold Bk at hb2; rw [hb] at hb2; exact h2 (Obj.cells.inj (Option.some.inj hb2)).2.1
theorem Ex.obj9 {w w' : World} (k : Ex w w') {g : Nat} {o : Obj} (hb : w.heap[g]? = some o) : w'.heap[g]? = some o := (k.block g (Array.getElem?_eq_some_iff.1 hb).1).trans hb
/-- one vault, in table s -/
def OneK (v : Nat → List Vt) (s : Nat) : Prop := ∃ z : Vt, z.ct = k3z ∧ v s = [z] ∧ ∀ i, i < 16 → i ≠ s → v i = []
def At5 (w0 w : World) (f : Value) (P : Rt → Prop) (b : Bool) : Prop := ∃ h y, f = .pointer (some ⟨h, 0, none⟩) ∧ w0.heap.size ≤ h ∧ RB w h y ∧ (b = true → P y)
def Y1 (y : Rt) : Prop := y.why = 0 ∧ y.gen = 1
def Y2 (y : Rt) : Prop := y.why = 14
structure K5 (w0 : World) (M : Nat) (D : Nat → Nat) (s g g1 : Nat) (b2 b6 b7 b8 b9 : Bool) (f6 f7 : Value) (w : World) : Prop where
 ext : Ex w0 w
 sec : w.heap[g]? = some (.cells #[.int .u8 115] 5 (1, 2))
 q : QB w g1 (k3q g)
 im : ∃ r v, IM w w0.heap.size M D r v ∧ (b2 = false → ∀ i, i < 16 → v i = []) ∧ (b2 = true → OneK v s)
 a6 : b6 = true → At5 w0 w f6 Y1 b8
 a7 : b7 = true → At5 w0 w f7 Y2 b9
 ne : b6 = true → b7 = true → f6 ≠ f7
theorem At5.ext {w0 w w' : World} {f : Value} {P : Rt → Prop} {b : Bool} (h : At5 w0 w f P b) (k : Ex w w') : At5 w0 w' f P b := by
 obtain ⟨h, y, e, h1, h2, h3⟩ := h
 exact ⟨h, y, e, h1, h2.ext k, h3⟩
theorem K5.grow {w0 : World} {M : Nat} {D : Nat → Nat} {s g g1 : Nat} {b2 b6 b7 b8 b9 : Bool} {f6 f7 : Value} {w w' : World} (h : K5 w0 M D s g g1 b2 b6 b7 b8 b9 f6 f7 w) (k : Ex w w') : K5 w0 M D s g g1 b2 b6 b7 b8 b9 f6 f7 w' :=
 ⟨Ex.trans h.ext k, k.obj9 h.sec, h.q.ext k, by obtain ⟨r, v, h1, h2⟩ := h.im; exact ⟨r, v, h1.ext k, h2⟩, fun e => (h.a6 e).ext k, fun e => (h.a7 e).ext k, h.ne⟩
theorem At5.tc {w0 w w' : World} {f : Value} {P : Rt → Prop} {b : Bool} {D : Nat} {rv : Value} {vs : List Vt} (h : At5 w0 w f P b) (k : Tc D rv.ownBlock w w') (ht : TB w D rv vs) : At5 w0 w' f P b := by
 obtain ⟨h, y, e, h1, h2, h3⟩ := h
 exact ⟨h, y, e, h1, ⟨h2.1, k.kt9 ht h2.2 (by decide) (by decide)⟩, h3⟩
theorem At5.only {w0 w w' : World} {f : Value} {P : Rt → Prop} {b : Bool} {g : Nat} (h : At5 w0 w f P b) (k : Only g w w') (hn : f ≠ .pointer (some ⟨g, 0, none⟩)) : At5 w0 w' f P b := by
 obtain ⟨h, y, rfl, h1, h2, h3⟩ := h
 exact ⟨h, y, rfl, h1, k.rb h2 (fun e => hn (by rw [e])), h3⟩
/-- a Do of the first or second kind -/
theorem K5.turn {w0 : World} {M : Nat} {D : Nat → Nat} {s g g1 : Nat} {b2 b6 b7 b8 b9 : Bool} {f6 f7 : Value} {w w' : World} {r r' : Nat → Value} {v v' : Nat → List Vt} (h : K5 w0 M D s g g1 b2 b6 b7 b8 b9 f6 f7 w) (hs : s < 16) (him : IM w w0.heap.size M D r v) (k : Tc (D s) (r s).ownBlock w w') (him' : IM w' w0.heap.size M D r' v') (ho : OneK v' s) : K5 w0 M D s g g1 true b6 b7 b8 b9 f6 f7 w' := by
 have ht := him.ts.tb s hs
 exact ⟨k.ex9 ht h.ext (him.ts.lo s hs), k.obj9 ht h.sec (by decide) (by decide), ⟨h.q.1, k.kt9 ht h.q.2 (by decide) (by decide)⟩, ⟨r', v', him', (fun e => by cases e), fun _ => ho⟩, fun e => (h.a6 e).tc k ht, fun e => (h.a7 e).tc k ht, h.ne⟩
theorem At5.lt {w0 w : World} {f : Value} {P : Rt → Prop} {b : Bool} (h : At5 w0 w f P b) : f ≠ .pointer (some ⟨w.heap.size, 0, none⟩) := by
 obtain ⟨h, y, rfl, _, h2, _⟩ := h
 intro e
 have h3 := h2.lt
 injection e with e; injection e with e; injection e with e
 omega
/-- the state by what's listed -/
def S5 (w0 : World) (M : Nat) (D : Nat → Nat) (s g g1 : Nat) (l : Array Bool) (f : Nat → Value) (w : World) : Prop :=
 K5 w0 M D s g g1 (l.getD 2 false) (l.getD 6 false) (l.getD 7 false) (l.getD 8 false) (l.getD 9 false) (f 6) (f 7) w
section
variable {w0 : World} {M : Nat} {D : Nat → Nat} {s g g1 : Nat} {l : Array Bool} {f : Nat → Value} {w w' : World} {x : Value}
theorem S5.plain (h : S5 w0 M D s g g1 l f w) (i : Nat) (hi : i ≠ 2 ∧ i ≠ 6 ∧ i ≠ 7 ∧ i ≠ 8 ∧ i ≠ 9) (k : Ex w w') : S5 w0 M D s g g1 (l.setIfInBounds i true) (upd f i x) w' := by
 unfold S5
 rw [gset hi.1 false, gset hi.2.1 false, gset hi.2.2.1 false, gset hi.2.2.2.1 false, gset hi.2.2.2.2 false, upd_ne _ _ (Ne.symm hi.2.1), upd_ne _ _ (Ne.symm hi.2.2.1)]
 exact K5.grow h k
theorem S5.s5 (h : K5 w0 M D s g g1 (l.getD 2 false) (l.getD 6 false) (l.getD 7 false) (l.getD 8 false) (l.getD 9 false) (f 6) (f 7) w') : S5 w0 M D s g g1 (l.setIfInBounds 5 true) (upd f 5 x) w' := by
 unfold S5
 rw [gset (by decide) false, gset (by decide) false, gset (by decide) false, gset (by decide) false, gset (by decide) false, upd_ne _ _ (by decide), upd_ne _ _ (by decide)]
 exact h
theorem S5.s2 (hl : 2 < l.size) (h : K5 w0 M D s g g1 true (l.getD 6 false) (l.getD 7 false) (l.getD 8 false) (l.getD 9 false) (f 6) (f 7) w') : S5 w0 M D s g g1 (l.setIfInBounds 2 true) (upd f 2 x) w' := by
 unfold S5
 rw [set_new hl, gset (by decide) false, gset (by decide) false, gset (by decide) false, gset (by decide) false, upd_ne _ _ (by decide), upd_ne _ _ (by decide)]
 exact h
theorem S5.s6 (hl : 6 < l.size) (h : K5 w0 M D s g g1 (l.getD 2 false) true (l.getD 7 false) (l.getD 8 false) (l.getD 9 false) x (f 7) w') : S5 w0 M D s g g1 (l.setIfInBounds 6 true) (upd f 6 x) w' := by
 unfold S5
 rw [set_new hl, gset (by decide) false, gset (by decide) false, gset (by decide) false, gset (by decide) false, upd_same, upd_ne _ _ (by decide)]
 exact h
theorem S5.s9 (hl : 9 < l.size) (h : K5 w0 M D s g g1 (l.getD 2 false) (l.getD 6 false) (l.getD 7 false) (l.getD 8 false) true (f 6) (f 7) w') : S5 w0 M D s g g1 (l.setIfInBounds 9 true) (upd f 9 x) w' := by
 unfold S5
 rw [set_new hl, gset (by decide) false, gset (by decide) false, gset (by decide) false, gset (by decide) false, upd_ne _ _ (by decide), upd_ne _ _ (by decide)]
 exact h
end
end Go.Proofs.Ytmjfnpmnhehnkaa
namespace Go.Proofs.Ytmjfnpmnhehnkaa
open Go.RowKit
end Go.Proofs.Ytmjfnpmnhehnkaa
namespace Go.Proofs.Ytmjfnpmnhehnkaa
open Go.RowKit
def DigPost (n : Nat) (w : World) (e : Ending) (w' : World) : Prop := ∃ d : List UInt8, e = .returned (digV d) ∧ d.length = n ∧ Ex w w'
def i64 (n : Int) : Prop := -9223372036854775808 ≤ n ∧ n ≤ 9223372036854775807
end Go.Proofs.Ytmjfnpmnhehnkaa
namespace Go.Proofs.Ytmjfnpmnhehnkaa
open Go.RowKit
section
variable {P : Program} {ops : Array Oper} {Q : Exit → Act → World → Prop} {a0 : Act} {w0 : World} {φ : Nat → Value → World → Prop}
def nextB (ops : Array Oper) (N : Nat) : Bool := match ops[N + 1]? with
  | none => false
  | some o => o.after.toList.any fun e => Region.binds .any e && e.on == N
end
end Go.Proofs.Ytmjfnpmnhehnkaa
namespace Go.Proofs.Ytmjfnpmnhehnkaa
open Go.RowKit
section
variable {P : Program} {ops : Array Oper} {Q : Exit → Act → World → Prop} {a0 : Act} {w0 : World} {φ : Nat → Value → World → Prop}
def lateB (ops : Array Oper) (c : Nat) : Bool := (List.range ops.size).all fun i => decide (i ≤ c) || match ops[i]? with
  | none => false
  | some o => o.after.toList.any fun e => Region.binds .any e && decide (c ≤ e.on)
/-- what is asked of the operation between -/
def Cut (P : Program) (ops : Array Oper) (Q : Exit → Act → World → Prop) (a0 : Act) (c N : Nat) (φ ψ : Nat → Value → World → Prop) (a : Act) (w : World) (o : Oper) (a' : Act) (w' : World) : Prop :=
  ∃ v, a' = a.put o.dst v ∧ ψ c v w' ∧ (∀ i u, i < c → φ i u w → ψ i u w') ∧ (∀ i o, c < i → i < N → ops[i]? = some o → Ask P ops Q a0 w'.drew ψ i o) ∧
    (∀ a w, Ex w'.drew w → a.defers = a0.defers → a.tmps.size = a0.tmps.size → (∀ i o, i < N → ops[i]? = some o → ∃ v, ψ i v w ∧ ∀ t, o.dst = some t → a.tmps.getD t undef = v) →
      (∀ t, (∀ i o, i < N → ops[i]? = some o → o.dst ≠ some t) → a.tmps.getD t undef = a0.tmps.getD t undef) → wpOp P ops Q N (Q .normal) a w)
end
end Go.Proofs.Ytmjfnpmnhehnkaa
namespace Go.Proofs.Ytmjfnpmnhehnkaa
open Go.RowKit
/-- what is drawn for a request -/
structure Kq where
 op : Int
 id : Int
 pin : Int
 own : Int
 lim : Int
 client : Int
 num : Int
 sec : Pt
def Kq.C (x : Kq) : List Value := [.int .i64 x.op, .int .i64 x.id, .int .i64 x.pin, .int .i64 x.own, .int .i64 x.lim, .int .i64 x.client, .int .u64 x.num, x.sec.V]
def Kq.V (x : Kq) : Value := .agg x.C.toArray
structure Kq.In (x : Kq) (w : World) : Prop where
 op : i64 x.op
 id : i64 x.id
 pin : i64 x.pin
 own : i64 x.own
 lim : i64 x.lim
 client : i64 x.client
 num0 : 0 ≤ x.num
 num1 : x.num < 18446744073709551616
 sec : x.sec.In w w.heap.size
 sz : x.sec.l.length ≤ 9223372036854775807
theorem Kq.In.ext {x : Kq} {w w' : World} (h : x.In w) (k : Ex w w') : x.In w' := { h with sec := h.sec.ext k }
def KB (w : World) (g : Nat) (x : Kq) : Prop := Bk w g 76 x.C.toArray
theorem KB.ext {w w' : World} {g : Nat} {x : Kq} (h : KB w g x) (k : Ex w w') : KB w' g x := Bk.ext h k
theorem KB.cells {w : World} {g : Nat} {x : Kq} (h : KB w g x) : w.cell? ⟨g, 0, none⟩ = some (.int .i64 x.op) ∧ w.cell? ⟨g, 1, none⟩ = some (.int .i64 x.id) ∧ w.cell? ⟨g, 2, none⟩ = some (.int .i64 x.pin) ∧ w.cell? ⟨g, 3, none⟩ = some (.int .i64 x.own) ∧ w.cell? ⟨g, 4, none⟩ = some (.int .i64 x.lim) ∧ w.cell? ⟨g, 5, none⟩ = some (.int .i64 x.client) ∧ w.cell? ⟨g, 6, none⟩ = some (.int .u64 x.num) ∧ w.cell? ⟨g, 7, none⟩ = some (.slice x.sec.ad x.sec.l.length x.sec.cap) :=
 ⟨(Bk.cell h 0).trans rfl, (Bk.cell h 1).trans rfl, (Bk.cell h 2).trans rfl, (Bk.cell h 3).trans rfl, (Bk.cell h 4).trans rfl, (Bk.cell h 5).trans rfl, (Bk.cell h 6).trans rfl, (Bk.cell h 7).trans rfl⟩
def zeroQt : Qt := ⟨0, z4, z16, nilB, 0, z16, z16, 0, 0⟩
/-- a request at its beginning -/
structure Q0 (q : Qt) : Prop where
 ok : q.Ok
 op1 : 1 ≤ q.op
 op4 : q.op ≤ 4
 c0 : 0 ≤ q.client
 c1 : q.client < 4
 num : q.num ≤ 1099511627776
 pin : q.pin = z16
 own : q.own = z16
 lim : q.lim = 0
 sec : q.sec = nilB
def KPost (w : World) (e : Ending) (w' : World) : Prop := ∃ q : Qt, e = .returned q.V ∧ QI w' q ∧ q.ct.right = true ∧ Ex w w'
def KPost2 (w : World) (e : Ending) (w' : World) : Prop := ∃ q : Qt, e = .returned q.V ∧ QI w' q ∧ q.ct.right = true ∧ Ex w w' ∧ PN w' 0 q.sec
end Go.Proofs.Ytmjfnpmnhehnkaa
namespace Go.Proofs.Ytmjfnpmnhehnkaa
open Go.RowKit
theorem wrong_gen (v : Vc) : (wrongC v).gen = v.gen ∧ (wrongC v).id = v.id := by
 unfold wrongC; split <;> exact ⟨rfl, rfl⟩
theorem gone_right {id : List UInt8} {g : Int} {wi : Bool} (h0 : 1 ≤ g) (h1 : g ≤ 1099511627776) : (goneC id g wi).right = true := by
 unfold Vc.right
 rw [show (goneC id g wi).gone = true from rfl, if_pos rfl, show (goneC id g wi).gen = g from rfl, decide_eq_true (⟨h0, h1⟩ : 1 ≤ g ∧ g ≤ 1099511627776), show goneC (goneC id g wi).id g (goneC id g wi).wiped = goneC id g wi from rfl]
 simp
theorem right_split {v : Vc} (h : v.right = true) (hg : v.gone = false) : 1 ≤ v.gen ∧ v.gen ≤ 1099511627776 ∧ v.wiped = false ∧ 1 ≤ v.lim ∧ v.lim ≤ 32 ∧ 0 ≤ v.used ∧ v.used < v.lim ∧ v.sec.length ≤ 64 := by
 unfold Vc.right at h
 rw [hg, if_neg (by simp)] at h
 simp only [Bool.and_eq_true, decide_eq_true_eq, Bool.not_eq_true'] at h
 obtain ⟨⟨a, b⟩, ⟨⟨⟨c, d, e⟩, f⟩, g⟩, i⟩ := h
 exact ⟨a, b, c, d, e, f, g, i⟩
theorem right_mk {v : Vc} (hg : v.gone = false) (h : 1 ≤ v.gen ∧ v.gen ≤ 1099511627776 ∧ v.wiped = false ∧ 1 ≤ v.lim ∧ v.lim ≤ 32 ∧ 0 ≤ v.used ∧ v.used < v.lim ∧ v.sec.length ≤ 64) : v.right = true := by
 obtain ⟨a, b, c, d, e, f, g, i⟩ := h
 unfold Vc.right
 rw [hg, if_neg (by simp)]
 simp only [Bool.and_eq_true, decide_eq_true_eq, Bool.not_eq_true']
 exact ⟨⟨a, b⟩, ⟨⟨⟨c, d, e⟩, f⟩, g⟩, i⟩
theorem right_gen {v : Vc} (h : v.right = true) : 1 ≤ v.gen ∧ v.gen ≤ 1099511627776 := by
 unfold Vc.right at h
 rw [Bool.and_eq_true, decide_eq_true_eq] at h
 exact h.1
/-- a vault of an ID, or none -/
def Kept (id : List UInt8) (v : Vc) : Prop := v = zeroVc ∨ (v.right = true ∧ v.id = id)
structure Fresh (b : Bool) (w op : Int) : Prop where
 b : b = true
 w : w = 0
 o : op = 1 ∨ op = 3
structure Facts (v : Vc) (q : Qc) (v' : Vc) (r' : Rc) (b : Bool) : Prop where
 id : r'.id = q.id
 num : r'.num = q.num
 client : r'.client = q.client
 gen : r'.gen = v'.gen
 kept : Kept q.id v'
 yes : Fresh b r'.why q.op → v'.gen = v.gen + 1
 no : ¬ Fresh b r'.why q.op → v'.gen = v.gen
theorem qright_parts {q : Qc} (h : q.right = true) (ho : q.op = 1 ∨ q.op = 3) : 1 ≤ q.lim ∧ q.lim ≤ 32 ∧ q.sec.length ≤ 64 := by
 unfold Qc.right at h
 rw [if_pos ho] at h
 simp only [Bool.and_eq_true, decide_eq_true_eq] at h
 exact ⟨h.2.1.1, h.2.1.2, h.2.2⟩
theorem do_facts {v : Vc} {q : Qc} (hq : q.right = true) (hv : Kept q.id v) {v' : Vc} {r' : Rc} {b : Bool} (h : (v', r', b) = doC v q) : Facts v q v' r' b := by
 have hop := (Qc.right_op hq).1
 have hc : ¬ (q.right = false ∨ (v ≠ zeroVc ∧ (v.right = false ∨ v.id ≠ q.id))) := by
  rw [hq]
  rintro (h | ⟨h1, h2⟩)
  ·cases h
  rcases hv with hv | ⟨hv1, hv2⟩
  ·exact h1 hv
  rcases h2 with h2 | h2
  ·rw [hv1] at h2; cases h2
  exact h2 hv2
 unfold doC at h
 rw [if_neg hc] at h
 have hz : v = zeroVc → v.gen = 0 := fun e => by rw [e]; rfl
 by_cases hr : refuseC v (decide (v = zeroVc)) q = 0
 ·rw [if_pos hr] at h
  have hr0 := hr
  unfold refuseC at hr0
  rcases hop with ho | ho | ho | ho
  ·-- kept anew
   have ha : actC v q (repRt 0 q.id q.client q.num).ct = (freshC v q, { (repRt 0 q.id q.client q.num).ct with left := (freshC v q).left }, true) := by
    unfold actC; rw [if_neg (by omega), if_neg (by omega)]
   rw [ha] at h
   simp only [Prod.mk.injEq] at h
   obtain ⟨rfl, rfl, rfl⟩ := h
   have hg : v.gen ≠ 1099511627776 := by
    intro e
    rw [if_neg (by rintro ⟨_, h1, h2⟩; rw [if_pos ⟨ho, h1, h2⟩] at hr0; cases hr0), if_neg (fun h => h.1 ho), if_neg (fun h => h.1 ho), if_neg (by rintro ⟨h | h, _⟩ <;> omega), if_pos ⟨Or.inl ho, e⟩] at hr0
    cases hr0
   have hp := qright_parts hq (Or.inl ho)
   have hgv : 0 ≤ v.gen ∧ v.gen ≤ 1099511627776 := by
    rcases hv with hv | ⟨hv, _⟩
    ·rw [hz hv]; omega
    have := right_gen hv; omega
   exact ⟨rfl, rfl, rfl, rfl, Or.inr ⟨right_mk rfl ⟨by show 1 ≤ v.gen + 1; omega, by show v.gen + 1 ≤ 1099511627776; omega, rfl, hp.1, hp.2.1, Int.le_refl _, by show 0 < q.lim; omega, hp.2.2⟩, rfl⟩, fun _ => rfl, fun hn => absurd ⟨rfl, rfl, Or.inl ho⟩ hn⟩
  ·-- recover
   have h2 := refuse_ok hr ho
   have hvr : v.right = true ∧ v.id = q.id := by
    rcases hv with hv | hv
    ·exact absurd hv (of_decide_eq_false h2.1)
    exact hv
   have hs := right_split hvr.1 h2.2
   have ha : actC v q (repRt 0 q.id q.client q.num).ct = guessC v q.pin (repRt 0 q.id q.client q.num).ct := by unfold actC; rw [if_pos ho]
   rw [ha] at h
   have nf : ∀ b w, ¬ Fresh b w q.op := fun b w h => by have := h.o; omega
   unfold guessC at h
   by_cases hpp : q.pin = v.pin
   ·rw [if_pos hpp] at h
    simp only [Prod.mk.injEq] at h
    obtain ⟨rfl, rfl, rfl⟩ := h
    exact ⟨rfl, rfl, rfl, rfl, Or.inr hvr, fun hf => absurd hf (nf _ _), fun _ => rfl⟩
   rw [if_neg hpp] at h
   simp only [Prod.mk.injEq] at h
   obtain ⟨rfl, rfl, rfl⟩ := h
   refine ⟨rfl, rfl, rfl, rfl, Or.inr ⟨?_, (wrong_gen v).2.trans hvr.2⟩, fun hf => absurd hf (nf _ _), fun _ => (wrong_gen v).1⟩
   unfold wrongC
   split
   ·exact gone_right hs.1 hs.2.1
   rename_i hne
   exact right_mk (v := { v with used := v.used + 1 }) h2.2 ⟨hs.1, hs.2.1, hs.2.2.1, hs.2.2.2.1, hs.2.2.2.2.1, by show 0 ≤ v.used + 1; omega, by show v.used + 1 < v.lim; omega, hs.2.2.2.2.2.2.2⟩
  ·-- replaced
   have ha : actC v q (repRt 0 q.id q.client q.num).ct = (freshC v q, { (repRt 0 q.id q.client q.num).ct with left := (freshC v q).left }, true) := by
    unfold actC; rw [if_neg (by omega), if_neg (by omega)]
   rw [ha] at h
   simp only [Prod.mk.injEq] at h
   obtain ⟨rfl, rfl, rfl⟩ := h
   have hg : v.gen ≠ 1099511627776 := by
    intro e
    rw [if_neg (by rintro ⟨h1, _⟩; omega)] at hr0
    split at hr0
    ·cases hr0
    split at hr0
    ·cases hr0
    split at hr0
    ·cases hr0
    rw [if_pos ⟨Or.inr ho, e⟩] at hr0; cases hr0
   have hp := qright_parts hq (Or.inr ho)
   have hgv : 0 ≤ v.gen ∧ v.gen ≤ 1099511627776 := by
    rcases hv with hv | ⟨hv, _⟩
    ·rw [hz hv]; omega
    have := right_gen hv; omega
   exact ⟨rfl, rfl, rfl, rfl, Or.inr ⟨right_mk rfl ⟨by show 1 ≤ v.gen + 1; omega, by show v.gen + 1 ≤ 1099511627776; omega, rfl, hp.1, hp.2.1, Int.le_refl _, by show 0 < q.lim; omega, hp.2.2⟩, rfl⟩, fun _ => rfl, fun hn => absurd ⟨rfl, rfl, Or.inr ho⟩ hn⟩
  -- removed
  have ha : actC v q (repRt 0 q.id q.client q.num).ct = (goneC v.id v.gen false, (repRt 0 q.id q.client q.num).ct, true) := by
   unfold actC; rw [if_neg (by omega), if_pos ho]
  rw [ha] at h
  simp only [Prod.mk.injEq] at h
  obtain ⟨rfl, rfl, rfl⟩ := h
  have hvr : v.right = true ∧ v.id = q.id := by
   rcases hv with hv | hv
   ·rw [decide_eq_true hv, if_neg (by rintro ⟨h1, _⟩; omega), if_pos ⟨by omega, rfl⟩] at hr0
    cases hr0
   exact hv
  have hg := right_gen hvr.1
  exact ⟨rfl, rfl, rfl, rfl, Or.inr ⟨gone_right hg.1 hg.2, hvr.2⟩, fun hf => by have := hf.o; omega, fun _ => rfl⟩
 rw [if_neg hr] at h
 simp only [Prod.mk.injEq] at h
 obtain ⟨rfl, rfl, rfl⟩ := h
 exact ⟨rfl, rfl, rfl, rfl, hv, fun hf => absurd hf.b (by simp), fun _ => rfl⟩
/-- a row of what is drawn for requests -/
structure Kp.In (ad : Option Addr) (cap : Nat) (l : List Kq) (w : World) : Prop where
 len : l.length ≤ cap
 nil : ad = none → cap = 0
 ins : ∀ (i : Nat) (x : Kq), l[i]? = some x → x.In w
 read : 0 < l.length → ∃ a o, ad = some ⟨a, o, none⟩ ∧ a < w.heap.size ∧ ∀ (i : Nat) (x : Kq), l[i]? = some x → w.rangeAt a (o + i * 8) x.C
theorem Kp.In.ext {ad : Option Addr} {cap : Nat} {l : List Kq} {w w' : World} (h : Kp.In ad cap l w) (k : Ex w w') : Kp.In ad cap l w' :=
 ⟨h.len, h.nil, fun i x hx => (h.ins i x hx).ext k, fun h0 => by
  obtain ⟨a, o, e, hB, hc⟩ := h.read h0
  exact ⟨a, o, e, Nat.lt_of_lt_of_le hB k.sz, fun i x hx j v hv => (Below.cell (p := ⟨a, o + i * 8 + j, none⟩) k hB).trans (hc i x hx j v hv)⟩⟩
/-- what Do does: kept anew; refused; told; a wrong guess; removed -/
inductive Kind (v : Vc) (q : Qc) : Vc → Rc → Bool → Prop
 | fresh (ho : q.op = 1 ∨ q.op = 3) (hg : v.gen < 1099511627776) : Kind v q (freshC v q) ⟨0, q.id, v.gen + 1, (freshC v q).left, [], q.client, q.num⟩ true
 | refused (e : Int) (h0 : e ≠ 0) (h23 : e ≠ 23) : Kind v q v ⟨e, q.id, v.gen, 0, [], q.client, q.num⟩ false
 | told (ho : q.op = 2) (hv : v.right = true) (hg : v.gone = false) (hp : q.pin = v.pin) : Kind v q v ⟨0, q.id, v.gen, v.left, v.sec, q.client, q.num⟩ false
 | wrong (ho : q.op = 2) (hv : v.right = true) (hg : v.gone = false) : Kind v q (wrongC v) ⟨23, q.id, v.gen, (wrongC v).left, [], q.client, q.num⟩ true
 | removed (ho : q.op = 4) (hv : v.right = true) (hg : v.gone = false) : Kind v q (goneC v.id v.gen false) ⟨0, q.id, v.gen, 0, [], q.client, q.num⟩ true
theorem refuse_not {v : Vc} {n : Bool} {q : Qc} : refuseC v n q ≠ 23 := by
 unfold refuseC
 repeat' split
 all_goals decide
theorem do_kind {v : Vc} {q : Qc} (hq : q.right = true) (hv : Kept q.id v) : Kind v q (doC v q).1 (doC v q).2.1 (doC v q).2.2 := by
 have hop := (Qc.right_op hq).1
 have hc : ¬ (q.right = false ∨ (v ≠ zeroVc ∧ (v.right = false ∨ v.id ≠ q.id))) := by
  rw [hq]
  rintro (h | ⟨h1, h2⟩)
  ·cases h
  rcases hv with hv | ⟨hv1, hv2⟩
  ·exact h1 hv
  rcases h2 with h2 | h2
  ·rw [hv1] at h2; cases h2
  exact h2 hv2
 have hgv : 0 ≤ v.gen ∧ v.gen ≤ 1099511627776 := by
  rcases hv with hv | ⟨hv, _⟩
  ·rw [hv]; exact ⟨Int.le_refl _, by show (0 : Int) ≤ _; decide⟩
  have := right_gen hv; omega
 unfold doC
 rw [if_neg hc]
 by_cases hr : refuseC v (decide (v = zeroVc)) q = 0
 ·rw [if_pos hr]
  have hr0 := hr
  unfold refuseC at hr0
  have hnew : (q.op = 1 ∨ q.op = 3) → v.gen ≠ 1099511627776 := by
   intro ho e
   split at hr0
   ·cases hr0
   split at hr0
   ·cases hr0
   split at hr0
   ·cases hr0
   split at hr0
   ·cases hr0
   rw [if_pos ⟨ho, e⟩] at hr0; cases hr0
  have hold : q.op ≠ 1 → v ≠ zeroVc ∧ v.gone = false := by
   intro ho
   rw [if_neg (fun h => ho h.1)] at hr0
   split at hr0
   ·cases hr0
   rename_i h1
   split at hr0
   ·cases hr0
   rename_i h2
   refine ⟨fun e => h1 ⟨ho, decide_eq_true e⟩, ?_⟩
   cases hg : v.gone
   ·rfl
   exact absurd ⟨ho, hg⟩ h2
  have hvr : q.op ≠ 1 → v.right = true := fun ho => hv.elim (fun e => absurd e (hold ho).1) (fun h => h.1)
  have fr : (q.op = 1 ∨ q.op = 3) → actC v q (repRt 0 q.id q.client q.num).ct = (freshC v q, { (repRt 0 q.id q.client q.num).ct with left := (freshC v q).left }, true) := fun ho => by
   unfold actC; rw [if_neg (by omega), if_neg (by omega)]
  rcases hop with ho | ho | ho | ho
  ·rw [fr (Or.inl ho)]
   have := hnew (Or.inl ho)
   exact .fresh (Or.inl ho) (by omega)
  ·have ha : actC v q (repRt 0 q.id q.client q.num).ct = guessC v q.pin (repRt 0 q.id q.client q.num).ct := by unfold actC; rw [if_pos ho]
   rw [ha]
   unfold guessC
   by_cases hpp : q.pin = v.pin
   ·rw [if_pos hpp]
    exact .told ho (hvr (by omega)) (hold (by omega)).2 hpp
   rw [if_neg hpp]
   have e := (wrong_gen v).1
   have k := Kind.wrong (v := v) (q := q) ho (hvr (by omega)) (hold (by omega)).2
   show Kind v q (wrongC v) ⟨23, q.id, (wrongC v).gen, (wrongC v).left, [], q.client, q.num⟩ true
   rw [e]; exact k
  ·rw [fr (Or.inr ho)]
   have := hnew (Or.inr ho)
   exact .fresh (Or.inr ho) (by omega)
  have ha : actC v q (repRt 0 q.id q.client q.num).ct = (goneC v.id v.gen false, (repRt 0 q.id q.client q.num).ct, true) := by
   unfold actC; rw [if_neg (by omega), if_pos ho]
  rw [ha]
  exact .removed ho (hvr (by omega)) (hold (by omega)).2
 rw [if_neg hr]
 exact .refused _ hr refuse_not
theorem Kept.gen {id : List UInt8} {v : Vc} (h : Kept id v) : 0 ≤ v.gen ∧ v.gen ≤ 1099511627776 := by
 rcases h with h | ⟨h, _⟩
 ·rw [h]; exact ⟨Int.le_refl _, by show (0 : Int) ≤ _; decide⟩
 have := right_gen h; omega
end Go.Proofs.Ytmjfnpmnhehnkaa
namespace Go.Proofs.Ytmjfnpmnhehnkaa
open Go.RowKit
end Go.Proofs.Ytmjfnpmnhehnkaa
namespace Go.Proofs.Ytmjfnpmnhehnkaa
open Go.RowKit
theorem VRow.other {w w' : World} {D' B : Nat} {v rv' : Value} {xs vs' : List Vt} (h : VRow w B v xs) (h' : TB w D' rv' vs') (k : Tc D' rv'.ownBlock w w') (hr : Djn v rv') : VRow w' B v xs := by
 have hrow := h'.row.blk
 have keep : ∀ x, TVN w x → TVN w' x := fun x hx => by
  rcases hrow with e | ⟨gb, e, _, _, hb⟩
  ·exact hx.tc (gb := 0) k h'.blk (Or.inl e)
  exact hx.tc k h'.blk (Or.inr ⟨e, hb⟩)
 refine ⟨⟨h.row.1, h.row.2.imp id fun ⟨g, cap, cur, hv, hB, hg, hrest⟩ => ⟨g, cap, cur, hv, hB, ?_, hrest⟩⟩, fun i x hx => keep x (h.ins i x hx)⟩
 exact (show Bk w' g 36 cur from k.bk hg (fun e => by subst e; exact h'.D_ne hg rfl) (fun e => hr g (by rw [hv]; rfl) e.symm))
theorem VRow.inn3 {w : World} {B : Nat} {v : Value} {xs : List Vt} (h : VRow w B v xs) : ∃ ad cap, v = .slice ad xs.length cap ∧ Vp.In ad cap xs w ∧ cap ≤ 9223372036854775807 := by
 obtain ⟨ad, cap, e, hin⟩ := h.inn
 obtain ⟨ad2, cap2, e2, _, _, hc, _⟩ := own_rd h.row
 rw [e] at e2; cases e2
 exact ⟨ad, cap, e, hin, hc⟩
end Go.Proofs.Ytmjfnpmnhehnkaa
namespace Go.Proofs.Ytmjfnpmnhehnkaa
open Go.RowKit
/-- bytes that lie in old memory, or in a block of bytes -/
def SK (w0 w : World) (p : Pt) : Prop := p.In w w0.heap.size ∨ PN w 0 p
theorem SK.inn {w0 w : World} {p : Pt} (h : SK w0 w p) (hs : w0.heap.size ≤ w.heap.size) : p.In w w.heap.size := by
 rcases h with h | h
 ·exact h.more hs
 exact h.1
theorem SK.ext {w0 w w' : World} {p : Pt} (h : SK w0 w p) (hs : w0.heap.size ≤ w.heap.size) (k : Ex w w') : SK w0 w' p := by
 rcases h with h | h
 ·exact Or.inl (h.keep (k.mono hs))
 exact Or.inr (h.ext k)
theorem SK.kt {S : List Nat} {w0 w w' : World} {p : Pt} (h : SK w0 w p) (k : Kt S w0.heap.size w w') (hu : 5 ∉ S) : SK w0 w' p := by
 rcases h with h | h
 ·exact Or.inl (h.keep k.below)
 exact Or.inr (h.kt k hu)
theorem SK.tc {w0 w w' : World} {p : Pt} {D : Nat} {rv : Value} {vs : List Vt} (h : SK w0 w p) (k : Tc D rv.ownBlock w w') (ht : TB w D rv vs) (hs : w0.heap.size ≤ w.heap.size) (lo : w0.heap.size ≤ D) : SK w0 w' p := by
 rcases h with h | h
 ·refine Or.inl (h.keep ⟨k.os, k.tape, k.output, k.size, fun i hi => k.block i (by omega) (by omega) (fun e => ?_)⟩)
  have := (ht.row.row.lt i e.symm).1
  omega
 exact Or.inr (h.tc9 k ht)
structure PX (w0 w : World) (x : Vt) : Prop where
 ok : x.Ok
 sec : SK w0 w x.sec
 len : x.sec.l.length ≤ 64
/-- the document's map: block P has a row of its own -/
structure PB (w0 w : World) (P : Nat) (rv : Value) (xs : List Vt) : Prop where
 blk : Bk w P 134 #[rv]
 row : w.ownsRow w0.heap.size 36 42 rv xs.length (xs.flatMap Vt.C)
 ins : ∀ (i : Nat) (x : Vt), xs[i]? = some x → PX w0 w x
 lo : w0.heap.size ≤ P
 sz : w0.heap.size ≤ w.heap.size
theorem PB.ext {w0 w w' : World} {P : Nat} {rv : Value} {xs : List Vt} (h : PB w0 w P rv xs) (k : Ex w w') : PB w0 w' P rv xs :=
 ⟨h.blk.ext k, k.row h.row, fun i x hx => ⟨(h.ins i x hx).ok, (h.ins i x hx).sec.ext h.sz k, (h.ins i x hx).len⟩, h.lo, Nat.le_trans h.sz (Below.size k)⟩
theorem PB.inn {w0 w : World} {P : Nat} {rv : Value} {xs : List Vt} (h : PB w0 w P rv xs) : ∃ ad cap, rv = .slice ad xs.length cap ∧ Vp.In ad cap xs w ∧ cap ≤ 9223372036854775807 := by
 have hok : ∀ (i : Nat) (x : Vt), xs[i]? = some x → x.Ok := fun i x hx => (h.ins i x hx).ok
 obtain ⟨ad2, cap2, e2, _, _, hc9, _⟩ := own_rd h.row
 obtain ⟨_, ⟨h1, ⟨hv, h0⟩ | ⟨g, cap, cur, rfl, hb, hh, hc, hm, hs, ht⟩⟩, _⟩ := h
 ·exact ⟨none, 0, by rw [h0]; exact hv, ⟨by rw [h0]; exact Nat.le_refl 0, fun _ => rfl, hok, fun h => by omega⟩, by decide⟩
 have hc9 : cap ≤ 9223372036854775807 := by cases e2; exact hc9
 refine ⟨some ⟨g, 0, none⟩, cap, rfl, ⟨hc, (fun h => by cases h), hok, fun _ => ⟨g, 0, rfl, (show Bk w g 36 cur from hh).lt, fun i x hx j u hu => ?_⟩⟩, hc9⟩
 have hil : i < xs.length := (List.getElem?_eq_some_iff.1 hx).1
 have hj : j < 42 := by have := (List.getElem?_eq_some_iff.1 hu).1; rw [Vt.len (hok i x hx)] at this; exact this
 have h3 := vflat_at xs hok i j x hx hj
 rw [← ht, hu, List.getElem?_take, if_pos (by omega)] at h3
 rw [(show Bk w g 36 cur from hh).cell, Nat.zero_add, ← Array.getElem?_toList]
 exact h3
/-- what get tells -/
def GetP (xs : List Vt) (id : List UInt8) (x : Vt) (k : Int) : Prop := (k = -1 ∧ x = zeroVt ∧ ∀ y ∈ xs, y.id ≠ id) ∨ ∃ j : Nat, k = (j : Int) ∧ xs[j]? = some x ∧ x.id = id
def cntS (xs : List Vt) (id : List UInt8) : Nat := xs.countP (fun y => decide (Sm.shV y.id = Sm.shV id))
def PGetPost (xs : List Vt) (id : List UInt8) (w : World) (e : Ending) (w' : World) : Prop := ∃ (x : Vt) (k : Int), e = .returned (.tuple #[x.V, .int .i64 k, .int .i64 (cntS xs id)]) ∧ GetP xs id x k ∧ Ex w w'
end Go.Proofs.Ytmjfnpmnhehnkaa
namespace Go.Proofs.Ytmjfnpmnhehnkaa
open Go.RowKit
abbrev TVR : List Nat := [36, 83]
/-- a vault and a reply are stored where the answer is: x of block c, y of block d -/
structure P5 (B : Nat) (w0 : World) (a b c d : Nat) (u x : Vt) (y : Rt) (l2 l3 : Bool) (w : World) : Prop where
 k : Kt TVR B w0 w
 va : VB w a u
 rb : RB w b y
 vc : ∃ z, VB w c z ∧ (l2 = true → z = x)
 rd : ∃ z, RB w d z ∧ (l3 = true → z = y)
theorem VB.rne {w : World} {a b : Nat} {x : Vt} {y : Rt} (h : VB w a x) (k : RB w b y) : a ≠ b := fun e => by
 have h1 := h.2; have h2 := k.2
 rw [e] at h1
 exact absurd (h1.ty h2) (by decide)
theorem P5.s2 {B : Nat} {w0 : World} {a b c d : Nat} {u x : Vt} {y : Rt} {l2 l3 : Bool} {w w' : World} (h : P5 B w0 a b c d u x y l2 l3 w) (hac : a ≠ c) (hB : B ≤ c) (hd : VB w' c x) (ho : Only c w w') : P5 B w0 a b c d u x y true l3 w' := by
 obtain ⟨z, hz, _⟩ := h.vc
 obtain ⟨z2, hz2, h2⟩ := h.rd
 exact ⟨h.k.trans (Kt.md ho.md hB hz.2 (by simp)), ho.vb h.va hac, ho.rb h.rb (Ne.symm (hz.rne h.rb)), ⟨x, hd, fun _ => rfl⟩, ⟨z2, ho.rb hz2 (Ne.symm (hz.rne hz2)), h2⟩⟩
theorem P5.s3 {B : Nat} {w0 : World} {a b c d : Nat} {u x : Vt} {y : Rt} {l2 l3 : Bool} {w w' : World} (h : P5 B w0 a b c d u x y l2 l3 w) (hbd : b ≠ d) (hB : B ≤ d) (hd : RB w' d y) (ho : Only d w w') : P5 B w0 a b c d u x y l2 true w' := by
 obtain ⟨z, hz, h1⟩ := h.vc
 obtain ⟨z2, hz2, _⟩ := h.rd
 exact ⟨h.k.trans (Kt.md ho.md hB hz2.2 (by simp)), ho.vb h.va (h.va.rne hz2), ho.rb h.rb hbd, ⟨z, ho.vb hz (hz.rne hz2), h1⟩, ⟨y, hd, fun _ => rfl⟩⟩
theorem P5.ext {B : Nat} {w0 : World} {a b c d : Nat} {u x : Vt} {y : Rt} {l2 l3 : Bool} {w w' : World} (h : P5 B w0 a b c d u x y l2 l3 w) (k : Ex w w') (hB : B ≤ w.heap.size) : P5 B w0 a b c d u x y l2 l3 w' := by
 obtain ⟨z, hz, h1⟩ := h.vc
 obtain ⟨z2, hz2, h2⟩ := h.rd
 exact ⟨h.k.trans (k.kt hB), h.va.ext k, h.rb.ext k, ⟨z, hz.ext k, h1⟩, ⟨z2, hz2.ext k, h2⟩⟩
theorem P5.start {B : Nat} {w0 : World} {a b c d : Nat} {u x z : Vt} {y z2 : Rt} (hB : B ≤ w0.heap.size) (va : VB w0 a u) (rb : RB w0 b y) (vc : VB w0 c z) (rd : RB w0 d z2) : P5 B w0 a b c d u x y false false w0.drew := by
 have k : Ex w0 w0.drew := (Below.refl w0.heap.size w0).drew
 exact ⟨k.kt hB, va.ext k, rb.ext k, ⟨z, vc.ext k, fun e => by cases e⟩, ⟨z2, rd.ext k, fun e => by cases e⟩⟩
set_option maxHeartbeats 4000000 in
set_option maxRecDepth 100000 in
/-- two fields of a reply are stored into -/
structure P6 (w0 : World) (b : Nat) (y : Rt) (g l : Int) (l6 l8 : Bool) (w : World) : Prop where
 md : Md b w0 w
 rb : RB w b { y with gen := if l6 = true then g else y.gen, left := if l8 = true then l else y.left }
def frVt (v : Vt) (q : Qt) : Vt := ⟨q.id, v.gen + 1, q.pin, q.sec, q.lim, 0, q.own, false, false⟩
end Go.Proofs.Ytmjfnpmnhehnkaa
namespace Go.Proofs.Ytmjfnpmnhehnkaa
open Go.RowKit
/-- what region 2 of guess makes of the reply -/
structure P7 (w0 : World) (b : Nat) (y : Rt) (sl : List UInt8) (z : Int) (l : Array Bool) (f : Nat → Value) (w : World) : Prop where
 md : Md b w0 w
 e0 : l.getD 0 false = true → l.getD 3 false = false → ∃ g, f 0 = .slice (some ⟨g, 0, none⟩) 0 0 ∧ w0.heap.size ≤ g ∧ Bk w g 5 #[]
 e3 : l.getD 3 false = true → ∃ s : Pt, f 3 = s.V ∧ s.l = sl ∧ PN w w0.heap.size s
 rb : ∃ s : Pt, RB w b { y with sec := if l.getD 10 false = true then s else y.sec, left := if l.getD 12 false = true then z else y.left } ∧ (l.getD 10 false = true → s.l = sl ∧ PN w w0.heap.size s)
def GuPost (v : Vt) (q : Qt) (y : Rt) (w : World) (e : Ending) (w' : World) : Prop := ∃ (v' : Vt) (y' : Rt) (b : Bool), e = .returned (.tuple #[v'.V, y'.V, .bool b]) ∧ ((q.pin = v.pin ∧ v' = v ∧ b = false ∧ ∃ s : Pt, s.l = v.sec.l ∧ PN w' w.heap.size s ∧ y' = { y with sec := s, left := v.lim - v.used }) ∨ (q.pin ≠ v.pin ∧ b = true ∧ v' = (if v.used + 1 = v.lim then goneVt v.id v.gen true else { v with used := v.used + 1 }) ∧ y' = { y with why := 23, left := v.lim - (v.used + 1) })) ∧ Ex w w'
section
variable {w0 : World} {b : Nat} {y : Rt} {sl : List UInt8} {z : Int} {l : Array Bool} {f : Nat → Value} {w w' : World} {x : Value}
theorem P7.ex (h : P7 w0 b y sl z l f w) (k : Ex w w') : P7 w0 b y sl z l f w' :=
 ⟨h.md.trans (Ex.md k (by obtain ⟨s, h1, _⟩ := h.rb; exact Nat.le_of_lt h1.lt)), fun a c => by obtain ⟨g, h1, h2, h3⟩ := h.e0 a c; exact ⟨g, h1, h2, h3.ext k⟩, fun a => by obtain ⟨s, h1, h2, h3⟩ := h.e3 a; exact ⟨s, h1, h2, h3.ext k⟩, by obtain ⟨s, h1, h2⟩ := h.rb; exact ⟨s, h1.ext k, fun a => ⟨(h2 a).1, (h2 a).2.ext k⟩⟩⟩
theorem P7.plain (h : P7 w0 b y sl z l f w) (i : Nat) (hi : i ≠ 0 ∧ i ≠ 3 ∧ i ≠ 10 ∧ i ≠ 12) : P7 w0 b y sl z (l.setIfInBounds i true) (upd f i x) w := by
 refine ⟨h.md, ?_, ?_, ?_⟩
 ·rw [gset hi.1 false, gset hi.2.1 false, upd_ne _ _ (Ne.symm hi.1)]; exact h.e0
 ·rw [gset hi.2.1 false, upd_ne _ _ (Ne.symm hi.2.1)]; exact h.e3
 rw [gset hi.2.2.1 false, gset hi.2.2.2 false]; exact h.rb
theorem P7.s0 (h : P7 w0 b y sl z l f w) (h3 : l.getD 3 false = false) : P7 w0 b y sl z (l.setIfInBounds 0 true) (upd f 0 (.slice (some ⟨w.heap.size, 0, none⟩) 0 0)) (w.alloc (.cells #[] 5)) := by
 have k := h.ex (Ex.alloc w (.cells #[] 5))
 refine ⟨k.md, ?_, ?_, ?_⟩
 ·rw [upd_same]; exact fun _ _ => ⟨_, rfl, h.md.size, Bk.new rfl _ _⟩
 ·rw [gset (by decide) false, upd_ne _ _ (by decide)]; exact k.e3
 rw [gset (by decide) false, gset (by decide) false]; exact k.rb
theorem P7.s3 (h : P7 w0 b y sl z l f w) (hl : 3 < l.size) (k : Ex w w') {s : Pt} (h1 : s.l = sl) (h2 : PN w' w0.heap.size s) : P7 w0 b y sl z (l.setIfInBounds 3 true) (upd f 3 s.V) w' := by
 have k := h.ex k
 refine ⟨k.md, ?_, ?_, ?_⟩
 ·rw [set_new hl]; intro _ e; cases e
 ·rw [upd_same]; exact fun _ => ⟨s, rfl, h1, h2⟩
 rw [gset (by decide) false, gset (by decide) false]; exact k.rb
theorem P7.st (h : P7 w0 b y sl z l f w) {l' : Array Bool} {f' : Nat → Value} {y1 : Rt} (hb : RB w b y1) (ho : Only b w w') (e3 : l.getD 3 false = true) (h3' : l'.getD 3 false = l.getD 3 false) (f3 : f' 3 = f 3) (hr : ∃ s : Pt, RB w' b { y with sec := if l'.getD 10 false = true then s else y.sec, left := if l'.getD 12 false = true then z else y.left } ∧ (l'.getD 10 false = true → s.l = sl ∧ PN w w0.heap.size s)) : P7 w0 b y sl z l' f' w' := by
 refine ⟨h.md.trans ho.md, ?_, ?_, ?_⟩
 ·rw [h3', e3]; intro _ e; cases e
 ·rw [h3', f3]; intro a; obtain ⟨s, h1, h2, h3⟩ := h.e3 a; exact ⟨s, h1, h2, h3.onlyT ho hb.2 (by decide)⟩
 obtain ⟨s, h1, h2⟩ := hr; exact ⟨s, h1, fun a => ⟨(h2 a).1, (h2 a).2.onlyT ho hb.2 (by decide)⟩⟩
end
end Go.Proofs.Ytmjfnpmnhehnkaa
namespace Go.Proofs.Ytmjfnpmnhehnkaa
open Go.RowKit
def repG (id : List UInt8) (g c n : Int) : Rt := ⟨0, id, g, 0, nilB, c, n⟩
def RDPost (v : Vt) (q : Qt) (w : World) (e : Ending) (w' : World) : Prop := ∃ (v' : Vt) (r' : Rt) (b : Bool), e = .returned (.tuple #[v'.V, r'.V, .bool b]) ∧ (v'.ct, r'.ct, b) = doC v.ct q.ct ∧ v'.Ok ∧ (v'.sec = v.sec ∨ v'.sec = q.sec ∨ v'.sec = nilB) ∧ r'.Ok ∧ PN w' w.heap.size r'.sec ∧ Ex w w'
end Go.Proofs.Ytmjfnpmnhehnkaa
namespace Go.Proofs.Ytmjfnpmnhehnkaa
open Go.RowKit
theorem doC_changed {c : Vc} {q : Qc} (hq : q.right = true) (hk : Kept q.id c) (h : (doC c q).2.2 = true) : (doC c q).1.right = true ∧ (doC c q).1.id = q.id := by
  have hf := (do_facts hq hk (v' := (doC c q).1) (r' := (doC c q).2.1) (b := (doC c q).2.2) rfl).kept
  rcases hf with h0 | h0
  · exfalso
    have hK := do_kind hq hk
    have hge := Kept.gen hk
    generalize (doC c q).1 = x at h0 hK
    generalize (doC c q).2.1 = y at hK
    rw [h] at hK
    have hg : zeroVc.gen = 0 := rfl
    cases hK with
    | fresh ho hg2 =>
      have h2 := congrArg Vc.gen h0
      have h3 : (freshC c q).gen = c.gen + 1 := rfl
      omega
    | wrong ho hv hg2 =>
      have h2 := congrArg Vc.gen h0
      rw [(wrong_gen c).1] at h2
      have := right_gen hv
      omega
    | removed ho hv hg2 =>
      have h2 := congrArg Vc.gen h0
      have h3 : (goneC c.id c.gen false).gen = c.gen := rfl
      have := right_gen hv
      omega
  exact h0
def Home (v : Nat → List Vt) : Prop := ∀ i, i < 16 → ∀ x ∈ v i, Sm.shV x.id = (i : Int)
theorem Home.none {v : Nat → List Vt} (h : ∀ i, i < 16 → v i = []) : Home v := fun i hi x hx => by rw [h i hi] at hx; simp at hx
/-- what's under an ID -/
def Cur (vs : List Vt) (id : List UInt8) (c : Vc) : Prop := (c = zeroVc ∧ ∀ x ∈ vs, x.id ≠ id) ∨ ∃ x ∈ vs, x.ct = c ∧ x.id = id
/-- one put in the place of what had its ID -/
def Repl (vs ls : List Vt) (x : Vc) : Prop := ∀ c, c ∈ ls.map Vt.ct ↔ c = x ∨ (c ∈ vs.map Vt.ct ∧ c.id ≠ x.id)
structure Tidy (vs : List Vt) : Prop where
  srt : ∀ i j, i < j → j < vs.length → idF vs i < idF vs j
  idl : ∀ x ∈ vs, x.id.length = 4
  right : ∀ x ∈ vs, x.ct.right = true
  len : vs.length ≤ 4
theorem IM.tidy {w : World} {B M : Nat} {D : Nat → Nat} {r : Nat → Value} {v : Nat → List Vt} (h : IM w B M D r v) (hr : RightV v) {i : Nat} (hi : i < 16) : Tidy (v i) :=
  ⟨(h.ts.tb i hi).srt, fun x hx => by
    obtain ⟨j, hj, e⟩ := List.getElem_of_mem hx
    exact ((h.ts.tb i hi).row.ins j x (by rw [List.getElem?_eq_getElem hj, e])).ok.idN, fun x hx => by
    obtain ⟨j, hj, e⟩ := List.getElem_of_mem hx
    exact hr i hi j x (by rw [List.getElem?_eq_getElem hj, e]), (h.ts.tb i hi).len⟩
theorem Tidy.inj {vs : List Vt} (h : Tidy vs) {i j : Nat} (hi : i < vs.length) (hj : j < vs.length) (e : idF vs i = idF vs j) : i = j := by
  rcases Nat.lt_trichotomy i j with h1 | h1 | h1
  · have := h.srt i j h1 hj; omega
  · exact h1
  have := h.srt j i h1 hi; omega
theorem idF_get {vs : List Vt} {i : Nat} (hi : i < vs.length) : idF vs i = idn vs[i].id := idF_at vs i vs[i] (List.getElem?_eq_getElem hi)
theorem cur_of {vs : List Vt} (h : Tidy vs) {id : List UInt8} (hid : id.length = 4) {c : Vc} {b : Bool} (hg : GetDet vs (idn id) c b) : Cur vs id c ∧ (b = true ↔ c ≠ zeroVc) ∧ (c = zeroVc ∨ (c.right = true ∧ c.id = id)) := by
  cases b with
  | false =>
    refine ⟨Or.inl ⟨hg.2.2 rfl, fun x hx e => ?_⟩, ⟨(fun h => by cases h), fun h => absurd (hg.2.2 rfl) h⟩, Or.inl (hg.2.2 rfl)⟩
    obtain ⟨j, hj, e2⟩ := List.getElem_of_mem hx
    have := of_decide_eq_false hg.1.symm
    exact this ⟨j, hj, by rw [idF_get hj, e2, e]⟩
  | true =>
    obtain ⟨q, y, h1, h2, h3⟩ := hg.2.1 rfl
    have hm : y ∈ vs := List.mem_of_getElem? h1
    have hy : y.id = id := idn_inj (h.idl y hm) hid (by rw [← idF_at vs q y h1, h2])
    have hr := h.right y hm
    refine ⟨Or.inr ⟨y, hm, h3.symm, hy⟩, ⟨fun _ e => ?_, fun _ => rfl⟩, Or.inr ⟨by rw [h3]; exact hr, by rw [h3]; exact hy⟩⟩
    rw [h3] at e; rw [e] at hr; exact absurd hr (by decide)
theorem put_repl {vs ls : List Vt} {x : Vt} (h : Tidy vs) (hx : x.id.length = 4) (hr : x.ct.right = true) (hp : PutRel vs x ls) (hf : (∃ y ∈ vs, y.id = x.id) ∨ vs.length < 4) : Repl vs ls x.ct := by
  have at_id : ∀ (i : Nat) (hi : i < vs.length), idF vs i = idn x.id ↔ vs[i].id = x.id := fun i hi => by
    rw [idF_get hi]
    exact ⟨fun e => idn_inj (h.idl _ (List.getElem_mem hi)) hx e, fun e => by rw [e]⟩
  rcases hp with ⟨h1, _⟩ | ⟨_, p, z, _, hz, ⟨p1, p2, rfl⟩ | ⟨p1, p2, rfl⟩ | ⟨p1, p2, rfl⟩⟩
  · rw [hr] at h1; cases h1
  · intro c
    constructor
    · intro hc
      obtain ⟨y, hy, rfl⟩ := List.mem_map.1 hc
      obtain ⟨i, hi, e⟩ := List.getElem_of_mem hy
      by_cases hip : p = i
      · subst hip
        rw [List.getElem_set_self] at e
        exact Or.inl (by rw [← e, hz])
      rw [List.getElem_set_ne hip] at e
      rw [List.length_set] at hi
      refine Or.inr ⟨List.mem_map.2 ⟨y, e ▸ List.getElem_mem hi, rfl⟩, fun he => hip ?_⟩
      have he : y.id = x.id := he
      exact h.inj p1 hi (by rw [p2, (at_id i hi).2 (by rw [e, he])])
    rintro (rfl | ⟨hc, hne⟩)
    · exact List.mem_map.2 ⟨z, List.mem_iff_getElem.2 ⟨p, by rw [List.length_set]; exact p1, List.getElem_set_self _⟩, hz⟩
    obtain ⟨y, hy, rfl⟩ := List.mem_map.1 hc
    obtain ⟨i, hi, e⟩ := List.getElem_of_mem hy
    refine List.mem_map.2 ⟨y, List.mem_iff_getElem.2 ⟨i, by rw [List.length_set]; exact hi, ?_⟩, rfl⟩
    have hip : p ≠ i := fun e2 => by
      subst e2
      exact hne (show y.id = x.id by rw [← e]; exact (at_id p hi).1 p2)
    rw [List.getElem_set_ne hip, e]
  · exfalso
    rcases hf with ⟨y, hy, he⟩ | hf
    · obtain ⟨i, hi, e⟩ := List.getElem_of_mem hy
      exact p1 ⟨i, hi, (at_id i hi).2 (by rw [e, he])⟩
    omega
  intro c
  have hno : ∀ y ∈ vs, y.id ≠ x.id := fun y hy he => by
    obtain ⟨i, hi, e⟩ := List.getElem_of_mem hy
    exact p1 ⟨i, hi, (at_id i hi).2 (by rw [e, he])⟩
  have hm : ∀ y, y ∈ vs.take p ++ z :: vs.drop p ↔ y = z ∨ y ∈ vs := fun y => by
    rw [List.mem_append, List.mem_cons]
    have : y ∈ vs ↔ y ∈ vs.take p ∨ y ∈ vs.drop p := by rw [← List.mem_append, List.take_append_drop]
    rw [this]
    constructor
    · rintro (h | h | h)
      · exact Or.inr (Or.inl h)
      · exact Or.inl h
      exact Or.inr (Or.inr h)
    rintro (h | h | h)
    · exact Or.inr (Or.inl h)
    · exact Or.inl h
    exact Or.inr (Or.inr h)
  constructor
  · intro hc
    obtain ⟨y, hy, rfl⟩ := List.mem_map.1 hc
    rcases (hm y).1 hy with rfl | hy
    · exact Or.inl hz
    exact Or.inr ⟨List.mem_map.2 ⟨y, hy, rfl⟩, hno y hy⟩
  rintro (rfl | ⟨hc, _⟩)
  · exact List.mem_map.2 ⟨z, (hm z).2 (Or.inl rfl), hz⟩
  obtain ⟨y, hy, rfl⟩ := List.mem_map.1 hc
  exact List.mem_map.2 ⟨y, (hm y).2 (Or.inr hy), rfl⟩
/-- a step, by what's under the ID -/
theorem istep_cur {v v' : Nat → List Vt} {s : Nat} {q : Qc} {y : Rc} (ht : Tidy (v s)) (hid : q.id.length = 4) (hq : q.right = true) (h : IStep v s q y v') :
    ∃ c, Cur (v s) q.id c ∧ Kept q.id c ∧
      (((doC c q).2.2 = false ∧ y = (doC c q).2.1 ∧ v' = v) ∨
       ((doC c q).2.2 = true ∧ c = zeroVc ∧ 4 ≤ (v s).length ∧ y = (repRt 13 q.id q.client q.num).ct ∧ v' = v) ∨
       ((doC c q).2.2 = true ∧ (c ≠ zeroVc ∨ (v s).length < 4) ∧ y = (doC c q).2.1 ∧ ∃ ls, v' = updF v s ls ∧ Repl (v s) ls (doC c q).1)) := by
  rcases h with ⟨h1, _⟩ | ⟨_, c, b, hg, h⟩
  · rw [hq] at h1; cases h1
  obtain ⟨h1, h2, h3⟩ := cur_of ht hid hg
  refine ⟨c, h1, h3, ?_⟩
  rcases h with h | ⟨a1, a2, a3, a4, a5⟩ | ⟨a1, a2, a3, x, ls, a4, a5, a6⟩
  · exact Or.inl h
  · refine Or.inr (Or.inl ⟨a1, ?_, a3, a4, a5⟩)
    cases hc : decide (c = zeroVc) with
    | true => exact of_decide_eq_true hc
    | false => rw [h2.2 (of_decide_eq_false hc)] at a2; cases a2
  obtain ⟨r1, r2⟩ := doC_changed hq h3 a1
  refine Or.inr (Or.inr ⟨a1, a2.imp (fun h => h2.1 h) id, a3, ls, a6, ?_⟩)
  rw [← a4] at r1 r2 ⊢
  have r2 : x.id = q.id := r2
  refine put_repl ht (by rw [r2]; exact hid) r1 a5 ?_
  rcases a2 with hb | hb
  · rcases h1 with ⟨h0, _⟩ | ⟨z, hz, _, hz2⟩
    · exact absurd h0 (h2.1 hb)
    exact Or.inl ⟨z, hz, by rw [hz2, r2]⟩
  exact Or.inr hb
theorem Home.step {v : Nat → List Vt} {s : Nat} {ls : List Vt} {x : Vc} (h : Home v) (hr : Repl (v s) ls x) (hx : Sm.shV x.id = (s : Int)) : Home (updF v s ls) := fun i hi y hy => by
  by_cases e : i = s
  · subst e
    rw [updF_same] at hy
    rcases (hr y.ct).1 (List.mem_map.2 ⟨y, hy, rfl⟩) with h1 | ⟨h1, _⟩
    · rw [show y.id = x.id from congrArg Vc.id h1]; exact hx
    obtain ⟨z, hz, e2⟩ := List.mem_map.1 h1
    rw [← show z.id = y.id from congrArg Vc.id e2]; exact h i hi z hz
  rw [updF_ne _ _ e] at hy; exact h i hi y hy
end Go.Proofs.Ytmjfnpmnhehnkaa
