/- We, Uj -/
import Derived.Test.YtmjfnpmnhehnkaaQaw
namespace Go.Proofs.Ytmjfnpmnhehnkaa
open Go.RowKit
theorem Rc.eq_iff (a b : Rc) : a = b ↔ (a.why = b.why ∧ a.id = b.id ∧ a.gen = b.gen ∧ a.left = b.left ∧ a.sec = b.sec ∧ a.client = b.client ∧ a.num = b.num) := by
 cases a; cases b; simp
instance : DecidableEq Rc := fun a b => decidable_of_iff _ (Rc.eq_iff a b).symm
set_option maxHeartbeats 8000000 in
set_option maxRecDepth 100000 in
theorem rreplies_any (a b : Rt) (w : World) (ha : RI w a) (hb : RI w b) : Calls Try.prog 75 #[a.V, b.V] w fun e w' => e = .returned (.bool (decide (a.ct = b.ct))) ∧ Ex w w' := by
 obtain ⟨R, hR⟩ : ∃ R, R = decide (a.ct = b.ct) := ⟨_, rfl⟩
 have HD : Hid (R = true ↔ (a.why = b.why ∧ a.id = b.id ∧ a.gen = b.gen ∧ a.left = b.left ∧ a.sec.l = b.sec.l ∧ a.client = b.client ∧ a.num = b.num)) := Lib.hid (by rw [hR, decide_eq_true_iff, Rc.eq_iff]; exact Iff.rfl)
 rw [← hR]
 obtain ⟨cs, hcs⟩ : ∃ cs, cs = a.C.toArray := ⟨_, rfl⟩
 obtain ⟨ds, hds⟩ : ∃ cs, cs = b.C.toArray := ⟨_, rfl⟩
 have A0 : Hid (RB ((w.alloc (.cells cs 83)).alloc (.cells ds 83)) w.heap.size a) := Lib.hid ⟨ha.ok, by rw [hcs]; exact (Bk.new rfl _ _).more _⟩
 have B0 : Hid (RB ((w.alloc (.cells cs 83)).alloc (.cells ds 83)) (w.heap.size + 1) b) := Lib.hid ⟨hb.ok, by rw [hds]; exact Bk.new (by simp) _ _⟩
 have BW : Hid (Ex w ((w.alloc (.cells cs 83)).alloc (.cells ds 83))) := Lib.hid (Ex.trans (Ex.alloc w _) (Ex.alloc _ _))
 have AI := Lib.hid (ha.ext BW.out)
 have BI := Lib.hid (hb.ext BW.out)
 rw [show (Calls Try.prog 75 #[a.V, b.V] w) = (Calls Try.prog 75 #[.agg cs, .agg ds] w) by rw [hcs, hds]; rfl]
 clear hcs hds ha hb hR
 go_enter Try.func75, Try.ntmps75
 go_wp2_with ((with_reducible refine so3 [2000, 45] ?_ ?_); (focus rfl))
 (with_reducible refine ⟨?_⟩)
 change wpList _ _ _ _ _ ((w.alloc (.cells cs 83)).alloc (.cells ds 83))
 generalize hw1 : (w.alloc (.cells cs 83)).alloc (.cells ds 83) = w1 at *
 clear hw1
 obtain ⟨B, hB⟩ : ∃ B, B = w.heap.size := ⟨_, rfl⟩
 rw [← hB] at A0 B0 ⊢
 clear hB
 obtain ⟨a0, a5, a6, a7, a8, a9⟩ := A0.out.cells
 obtain ⟨b0, b5, b6, b7, b8, b9⟩ := B0.out.cells
 have c1 := pt_conv a.sec w1 AI.out.sec
 have c2 := pt_conv b.sec w1 BI.out.sec
 have HS := Lib.hid (strL_beq a.sec.l b.sec.l)
 generalize strL a.sec.l = sa at *
 generalize strL b.sec.l = sb at *
 unfold Pt.V at a7 b7
 go_wp2_with ((with_reducible refine so3 [2000] ?_ ?_); (focus rfl))
 (with_reducible refine at9 ?_ ?_); (focus go_simp); refine fun K0 hK => wp_eql_err _ _ _ rfl a.why b.why rfl rfl (hK _ _ ?_)
 clear hK
 by_cases hwhy : a.why = b.why
 case neg =>
  rw [decide_eq_false hwhy]
  go_wp2_with fail
  go_ret
  have e : R = false := by
   cases hR : R with
   | false => rfl
   | true => exact absurd (HD.out.1 hR).1 hwhy
  exact ⟨congrArg (fun b => Ending.returned (.bool b)) e.symm, BW.out⟩
 rw [decide_eq_true hwhy]
 have Hwhy := Lib.hid hwhy
 clear hwhy
 go_wp2_with ((with_reducible refine so3 [2000] ?_ ?_); (focus rfl))
 (with_reducible refine at9 ?_ ?_); (focus go_simp); refine fun K0 hK => ld_rid _ _ a rfl rfl A0.out (hK _ _ ?_)
 clear hK
 go_wp2_with ((with_reducible refine so3 [2000] ?_ ?_); (focus rfl))
 (with_reducible refine at9 ?_ ?_); (focus go_simp); refine fun K0 hK => ld_rid _ _ b rfl rfl B0.out (hK _ _ ?_)
 clear hK
 go_wp2_with ((with_reducible refine so3 [2000] ?_ ?_); (focus rfl))
 (with_reducible refine at9 ?_ ?_); (focus go_simp); refine fun K0 hK => wp_eql_id _ _ _ rfl a.id b.id A0.out.1.idN B0.out.1.idN rfl rfl (hK _ _ ?_)
 clear hK
 by_cases hid : a.id = b.id
 case neg =>
  rw [decide_eq_false hid]
  go_wp2_with fail
  go_ret
  have e : R = false := by
   cases hR : R with
   | false => rfl
   | true => exact absurd (HD.out.1 hR).2.1 hid
  exact ⟨congrArg (fun b => Ending.returned (.bool b)) e.symm, BW.out⟩
 rw [decide_eq_true hid]
 have Hid := Lib.hid hid
 clear hid
 go_wp2_with ((with_reducible refine so3 [2000] ?_ ?_); (focus rfl))
 (with_reducible refine at9 ?_ ?_); (focus go_simp); refine fun K0 hK => wp_eql_u64 _ _ _ rfl a.gen b.gen rfl rfl (hK _ _ ?_)
 clear hK
 by_cases hgen : a.gen = b.gen
 case neg =>
  rw [decide_eq_false hgen]
  go_wp2_with fail
  go_ret
  have e : R = false := by
   cases hR : R with
   | false => rfl
   | true => exact absurd (HD.out.1 hR).2.2.1 hgen
  exact ⟨congrArg (fun b => Ending.returned (.bool b)) e.symm, BW.out⟩
 rw [decide_eq_true hgen]
 have Hgen := Lib.hid hgen
 clear hgen
 go_wp2_with ((with_reducible refine so3 [2000] ?_ ?_); (focus rfl))
 (with_reducible refine at9 ?_ ?_); (focus go_simp); refine fun K0 hK => wp_eql_i64 _ _ _ rfl a.left b.left rfl rfl (hK _ _ ?_)
 clear hK
 by_cases hleft : a.left = b.left
 case neg =>
  rw [decide_eq_false hleft]
  go_wp2_with fail
  go_ret
  have e : R = false := by
   cases hR : R with
   | false => rfl
   | true => exact absurd (HD.out.1 hR).2.2.2.1 hleft
  exact ⟨congrArg (fun b => Ending.returned (.bool b)) e.symm, BW.out⟩
 rw [decide_eq_true hleft]
 have Hleft := Lib.hid hleft
 clear hleft
 go_wp2_with ((with_reducible refine so3 [2000] ?_ ?_); (focus rfl))
 (with_reducible refine at9 ?_ ?_); (focus go_simp); refine fun K0 hK => wp_eql_s _ _ _ rfl sa sb rfl rfl _ HS.out (hK _ _ ?_)
 clear hK
 clear HS
 by_cases hsec : a.sec.l = b.sec.l
 case neg =>
  rw [decide_eq_false hsec]
  go_wp2_with fail
  go_ret
  have e : R = false := by
   cases hR : R with
   | false => rfl
   | true => exact absurd (HD.out.1 hR).2.2.2.2.1 hsec
  exact ⟨congrArg (fun b => Ending.returned (.bool b)) e.symm, BW.out⟩
 rw [decide_eq_true hsec]
 have Hsec := Lib.hid hsec
 clear hsec
 go_wp2_with ((with_reducible refine so3 [2000] ?_ ?_); (focus rfl))
 (with_reducible refine at9 ?_ ?_); (focus go_simp); refine fun K0 hK => wp_eql_i64 _ _ _ rfl a.client b.client rfl rfl (hK _ _ ?_)
 clear hK
 by_cases hclient : a.client = b.client
 case neg =>
  rw [decide_eq_false hclient]
  go_wp2_with fail
  go_ret
  have e : R = false := by
   cases hR : R with
   | false => rfl
   | true => exact absurd (HD.out.1 hR).2.2.2.2.2.1 hclient
  exact ⟨congrArg (fun b => Ending.returned (.bool b)) e.symm, BW.out⟩
 rw [decide_eq_true hclient]
 have Hclient := Lib.hid hclient
 clear hclient
 go_wp2_with ((with_reducible refine so3 [2000] ?_ ?_); (focus rfl))
 (with_reducible refine at9 ?_ ?_); (focus go_simp); refine fun K0 hK => wp_eql_u64 _ _ _ rfl a.num b.num rfl rfl (hK _ _ ?_)
 clear hK
 by_cases hnum : a.num = b.num
 case neg =>
  rw [decide_eq_false hnum]
  go_wp2_with fail
  go_ret
  have e : R = false := by
   cases hR : R with
   | false => rfl
   | true => exact absurd (HD.out.1 hR).2.2.2.2.2.2 hnum
  exact ⟨congrArg (fun b => Ending.returned (.bool b)) e.symm, BW.out⟩
 rw [decide_eq_true hnum]
 have Hnum := Lib.hid hnum
 clear hnum
 go_wp2_with fail
 go_ret
 have e : R = true := HD.out.2 ⟨Hwhy.out, Hid.out, Hgen.out, Hleft.out, Hsec.out, Hclient.out, Hnum.out⟩
 exact ⟨congrArg (fun b => Ending.returned (.bool b)) e.symm, BW.out⟩
end Go.Proofs.Ytmjfnpmnhehnkaa
namespace Go.Proofs.Ytmjfnpmnhehnkaa
open Go.RowKit
/-- a block of another type stays when a table is turned -/
theorem Tc.obj9 {w w' : World} {D : Nat} {rv : Value} {vs : List Vt} (k : Tc D rv.ownBlock w w') (ht : TB w D rv vs) {g : Nat} {t : TypeId} {cs : Array Value} {fr : Nat × Nat} (hb : w.heap[g]? = some (.cells cs t fr)) (h1 : t ≠ 169) (h2 : t ≠ 36) : w'.heap[g]? = some (.cells cs t fr) := by
 refine (k.block g (Array.getElem?_eq_some_iff.1 hb).1 (fun e => ?_) (fun e => ?_)).trans hb
 ·subst e
  have h3 := ht.blk
  unfold Bk at h3; rw [hb] at h3; exact h1 (Obj.cells.inj (Option.some.inj h3)).2.1
 rcases ht.row.blk with h3 | ⟨gb, h3, _, _, cs2, hb2⟩
 ·rw [h3] at e; cases e
 rw [h3] at e; cases e
 unfold Bk at hb2; rw [hb] at hb2; exact h2 (Obj.cells.inj (Option.some.inj hb2)).2.1
theorem Ex.obj9 {w w' : World} (k : Ex w w') {g : Nat} {o : Obj} (hb : w.heap[g]? = some o) : w'.heap[g]? = some o := (k.block g (Array.getElem?_eq_some_iff.1 hb).1).trans hb
/-- one vault, in table s -/
def OneK (v : Nat → List Vt) (s : Nat) : Prop := ∃ z : Vt, z.ct = k3z ∧ v s = [z] ∧ ∀ i, i < 16 → i ≠ s → v i = []
def At5 (w0 w : World) (f : Value) (P : Rt → Prop) (b : Bool) : Prop := ∃ h y, f = .pointer (some ⟨h, 0, none⟩) ∧ w0.heap.size ≤ h ∧ RB w h y ∧ (b = true → P y)
def Y1 (y : Rt) : Prop := y.why = 0 ∧ y.gen = 1
def Y2 (y : Rt) : Prop := y.why = 14
structure K5 (w0 : World) (M : Nat) (D : Nat → Nat) (s g g1 : Nat) (b2 b6 b7 b8 b9 : Bool) (f6 f7 : Value) (w : World) : Prop where
 ext : Ex w0 w
 sec : w.heap[g]? = some (.cells #[.int .u8 115] 5 (1, 2))
 q : QB w g1 (k3q g)
 im : ∃ r v, IM w w0.heap.size M D r v ∧ (b2 = false → ∀ i, i < 16 → v i = []) ∧ (b2 = true → OneK v s)
 a6 : b6 = true → At5 w0 w f6 Y1 b8
 a7 : b7 = true → At5 w0 w f7 Y2 b9
 ne : b6 = true → b7 = true → f6 ≠ f7
theorem At5.ext {w0 w w' : World} {f : Value} {P : Rt → Prop} {b : Bool} (h : At5 w0 w f P b) (k : Ex w w') : At5 w0 w' f P b := by
 obtain ⟨h, y, e, h1, h2, h3⟩ := h
 exact ⟨h, y, e, h1, h2.ext k, h3⟩
theorem K5.grow {w0 : World} {M : Nat} {D : Nat → Nat} {s g g1 : Nat} {b2 b6 b7 b8 b9 : Bool} {f6 f7 : Value} {w w' : World} (h : K5 w0 M D s g g1 b2 b6 b7 b8 b9 f6 f7 w) (k : Ex w w') : K5 w0 M D s g g1 b2 b6 b7 b8 b9 f6 f7 w' :=
 ⟨Ex.trans h.ext k, k.obj9 h.sec, h.q.ext k, by obtain ⟨r, v, h1, h2⟩ := h.im; exact ⟨r, v, h1.ext k, h2⟩, fun e => (h.a6 e).ext k, fun e => (h.a7 e).ext k, h.ne⟩
theorem At5.tc {w0 w w' : World} {f : Value} {P : Rt → Prop} {b : Bool} {D : Nat} {rv : Value} {vs : List Vt} (h : At5 w0 w f P b) (k : Tc D rv.ownBlock w w') (ht : TB w D rv vs) : At5 w0 w' f P b := by
 obtain ⟨h, y, e, h1, h2, h3⟩ := h
 exact ⟨h, y, e, h1, ⟨h2.1, k.kt9 ht h2.2 (by decide) (by decide)⟩, h3⟩
theorem At5.only {w0 w w' : World} {f : Value} {P : Rt → Prop} {b : Bool} {g : Nat} (h : At5 w0 w f P b) (k : Only g w w') (hn : f ≠ .pointer (some ⟨g, 0, none⟩)) : At5 w0 w' f P b := by
 obtain ⟨h, y, rfl, h1, h2, h3⟩ := h
 exact ⟨h, y, rfl, h1, k.rb h2 (fun e => hn (by rw [e])), h3⟩
theorem K5.secp {w0 : World} {M : Nat} {D : Nat → Nat} {s g g1 : Nat} {b2 b6 b7 b8 b9 : Bool} {f6 f7 : Value} {w : World} (h : K5 w0 M D s g g1 b2 b6 b7 b8 b9 f6 f7 w) : QI w (k3q g) := ⟨h.q.1, k3_sec h.sec⟩
/-- a Do of the first or second kind -/
theorem K5.turn {w0 : World} {M : Nat} {D : Nat → Nat} {s g g1 : Nat} {b2 b6 b7 b8 b9 : Bool} {f6 f7 : Value} {w w' : World} {r r' : Nat → Value} {v v' : Nat → List Vt} (h : K5 w0 M D s g g1 b2 b6 b7 b8 b9 f6 f7 w) (hs : s < 16) (him : IM w w0.heap.size M D r v) (k : Tc (D s) (r s).ownBlock w w') (him' : IM w' w0.heap.size M D r' v') (ho : OneK v' s) : K5 w0 M D s g g1 true b6 b7 b8 b9 f6 f7 w' := by
 have ht := him.ts.tb s hs
 exact ⟨k.ex9 ht h.ext (him.ts.lo s hs), k.obj9 ht h.sec (by decide) (by decide), ⟨h.q.1, k.kt9 ht h.q.2 (by decide) (by decide)⟩, ⟨r', v', him', (fun e => by cases e), fun _ => ho⟩, fun e => (h.a6 e).tc k ht, fun e => (h.a7 e).tc k ht, h.ne⟩
theorem K5.st6 {w0 : World} {M : Nat} {D : Nat → Nat} {s g g1 h6 : Nat} {b2 b7 b8 b9 : Bool} {f7 : Value} {w w' : World} {y y' : Rt} (h : K5 w0 M D s g g1 b2 true b7 b8 b9 (.pointer (some ⟨h6, 0, none⟩)) f7 w) (hb : RB w h6 y) (k : Only h6 w w') (hy : RB w' h6 y') (hp : Y1 y') (hlo : w0.heap.size ≤ h6) : K5 w0 M D s g g1 b2 true b7 true b9 (.pointer (some ⟨h6, 0, none⟩)) f7 w' := by
 have k9 : Kt [83] 0 w w' := Kt.md k.md (Nat.zero_le _) hb.2 (List.mem_singleton.2 rfl)
 obtain ⟨r, v, h1, h2⟩ := h.im
 refine ⟨k.below w0.heap.size hlo w0 h.ext, ?_, ⟨h.q.1, k9.bk h.q.2 (by decide)⟩, ⟨r, v, h1.kts9 k9, h2⟩, fun _ => ⟨h6, y', rfl, hlo, hy, fun _ => hp⟩, fun e => (h.a7 e).only k (Ne.symm (h.ne rfl e)), h.ne⟩
 refine (k.other g (fun e => ?_)).trans h.sec
 have h3 := h.sec
 have h4 := hb.2
 unfold Bk at h4; rw [← e, h3] at h4
 exact absurd (Obj.cells.inj (Option.some.inj h4)).2.1 (by decide)
theorem K5.st7 {w0 : World} {M : Nat} {D : Nat → Nat} {s g g1 h6 : Nat} {b2 b6 b8 b9 : Bool} {f6 : Value} {w w' : World} {y y' : Rt} (h : K5 w0 M D s g g1 b2 b6 true b8 b9 f6 (.pointer (some ⟨h6, 0, none⟩)) w) (hb : RB w h6 y) (k : Only h6 w w') (hy : RB w' h6 y') (hp : Y2 y') (hlo : w0.heap.size ≤ h6) : K5 w0 M D s g g1 b2 b6 true b8 true f6 (.pointer (some ⟨h6, 0, none⟩)) w' := by
 have k9 : Kt [83] 0 w w' := Kt.md k.md (Nat.zero_le _) hb.2 (List.mem_singleton.2 rfl)
 obtain ⟨r, v, h1, h2⟩ := h.im
 refine ⟨k.below w0.heap.size hlo w0 h.ext, ?_, ⟨h.q.1, k9.bk h.q.2 (by decide)⟩, ⟨r, v, h1.kts9 k9, h2⟩, fun e => (h.a6 e).only k (h.ne e rfl), fun _ => ⟨h6, y', rfl, hlo, hy, fun _ => hp⟩, h.ne⟩
 refine (k.other g (fun e => ?_)).trans h.sec
 have h3 := h.sec
 have h4 := hb.2
 unfold Bk at h4; rw [← e, h3] at h4
 exact absurd (Obj.cells.inj (Option.some.inj h4)).2.1 (by decide)
theorem At5.lt {w0 w : World} {f : Value} {P : Rt → Prop} {b : Bool} (h : At5 w0 w f P b) : f ≠ .pointer (some ⟨w.heap.size, 0, none⟩) := by
 obtain ⟨h, y, rfl, _, h2, _⟩ := h
 intro e
 have h3 := h2.lt
 injection e with e; injection e with e; injection e with e
 omega
theorem K5.new6 {w0 : World} {M : Nat} {D : Nat → Nat} {s g g1 : Nat} {b2 b6 b7 b8 b9 : Bool} {f6 f7 : Value} {w : World} (h : K5 w0 M D s g g1 b2 b6 b7 b8 b9 f6 f7 w) (hb : b8 = false) : K5 w0 M D s g g1 b2 true b7 b8 b9 (.pointer (some ⟨w.heap.size, 0, none⟩)) f7 (w.alloc (.cells zeroRt.C.toArray 83)) := by
 have h2 := h.grow (Ex.alloc w (.cells zeroRt.C.toArray 83))
 exact { h2 with a6 := fun _ => ⟨_, zeroRt, rfl, Below.size h.ext, ⟨zeroRt_ok, Bk.new rfl _ _⟩, fun e => by rw [hb] at e; cases e⟩, ne := fun _ e => Ne.symm (h.a7 e).lt }
theorem K5.new7 {w0 : World} {M : Nat} {D : Nat → Nat} {s g g1 : Nat} {b2 b6 b7 b8 b9 : Bool} {f6 f7 : Value} {w : World} (h : K5 w0 M D s g g1 b2 b6 b7 b8 b9 f6 f7 w) (hb : b9 = false) : K5 w0 M D s g g1 b2 b6 true b8 b9 f6 (.pointer (some ⟨w.heap.size, 0, none⟩)) (w.alloc (.cells zeroRt.C.toArray 83)) := by
 have h2 := h.grow (Ex.alloc w (.cells zeroRt.C.toArray 83))
 exact { h2 with a7 := fun _ => ⟨_, zeroRt, rfl, Below.size h.ext, ⟨zeroRt_ok, Bk.new rfl _ _⟩, fun e => by rw [hb] at e; cases e⟩, ne := fun e _ => (h.a6 e).lt }
/-- the state by what's listed -/
def S5 (w0 : World) (M : Nat) (D : Nat → Nat) (s g g1 : Nat) (l : Array Bool) (f : Nat → Value) (w : World) : Prop :=
 K5 w0 M D s g g1 (l.getD 2 false) (l.getD 6 false) (l.getD 7 false) (l.getD 8 false) (l.getD 9 false) (f 6) (f 7) w
section
variable {w0 : World} {M : Nat} {D : Nat → Nat} {s g g1 : Nat} {l : Array Bool} {f : Nat → Value} {w w' : World} {x : Value}
theorem S5.plain (h : S5 w0 M D s g g1 l f w) (i : Nat) (hi : i ≠ 2 ∧ i ≠ 6 ∧ i ≠ 7 ∧ i ≠ 8 ∧ i ≠ 9) (k : Ex w w') : S5 w0 M D s g g1 (l.setIfInBounds i true) (upd f i x) w' := by
 unfold S5
 rw [gset hi.1 false, gset hi.2.1 false, gset hi.2.2.1 false, gset hi.2.2.2.1 false, gset hi.2.2.2.2 false, upd_ne _ _ (Ne.symm hi.2.1), upd_ne _ _ (Ne.symm hi.2.2.1)]
 exact K5.grow h k
theorem S5.s5 (h : K5 w0 M D s g g1 (l.getD 2 false) (l.getD 6 false) (l.getD 7 false) (l.getD 8 false) (l.getD 9 false) (f 6) (f 7) w') : S5 w0 M D s g g1 (l.setIfInBounds 5 true) (upd f 5 x) w' := by
 unfold S5
 rw [gset (by decide) false, gset (by decide) false, gset (by decide) false, gset (by decide) false, gset (by decide) false, upd_ne _ _ (by decide), upd_ne _ _ (by decide)]
 exact h
theorem S5.s2 (hl : 2 < l.size) (h : K5 w0 M D s g g1 true (l.getD 6 false) (l.getD 7 false) (l.getD 8 false) (l.getD 9 false) (f 6) (f 7) w') : S5 w0 M D s g g1 (l.setIfInBounds 2 true) (upd f 2 x) w' := by
 unfold S5
 rw [set_new hl, gset (by decide) false, gset (by decide) false, gset (by decide) false, gset (by decide) false, upd_ne _ _ (by decide), upd_ne _ _ (by decide)]
 exact h
theorem S5.s6 (hl : 6 < l.size) (h : K5 w0 M D s g g1 (l.getD 2 false) true (l.getD 7 false) (l.getD 8 false) (l.getD 9 false) x (f 7) w') : S5 w0 M D s g g1 (l.setIfInBounds 6 true) (upd f 6 x) w' := by
 unfold S5
 rw [set_new hl, gset (by decide) false, gset (by decide) false, gset (by decide) false, gset (by decide) false, upd_same, upd_ne _ _ (by decide)]
 exact h
theorem S5.s7 (hl : 7 < l.size) (h : K5 w0 M D s g g1 (l.getD 2 false) (l.getD 6 false) true (l.getD 8 false) (l.getD 9 false) (f 6) x w') : S5 w0 M D s g g1 (l.setIfInBounds 7 true) (upd f 7 x) w' := by
 unfold S5
 rw [set_new hl, gset (by decide) false, gset (by decide) false, gset (by decide) false, gset (by decide) false, upd_ne _ _ (by decide), upd_same]
 exact h
theorem S5.s8 (hl : 8 < l.size) (h : K5 w0 M D s g g1 (l.getD 2 false) (l.getD 6 false) (l.getD 7 false) true (l.getD 9 false) (f 6) (f 7) w') : S5 w0 M D s g g1 (l.setIfInBounds 8 true) (upd f 8 x) w' := by
 unfold S5
 rw [set_new hl, gset (by decide) false, gset (by decide) false, gset (by decide) false, gset (by decide) false, upd_ne _ _ (by decide), upd_ne _ _ (by decide)]
 exact h
theorem S5.s9 (hl : 9 < l.size) (h : K5 w0 M D s g g1 (l.getD 2 false) (l.getD 6 false) (l.getD 7 false) (l.getD 8 false) true (f 6) (f 7) w') : S5 w0 M D s g g1 (l.setIfInBounds 9 true) (upd f 9 x) w' := by
 unfold S5
 rw [set_new hl, gset (by decide) false, gset (by decide) false, gset (by decide) false, gset (by decide) false, upd_ne _ _ (by decide), upd_ne _ _ (by decide)]
 exact h
end
end Go.Proofs.Ytmjfnpmnhehnkaa
