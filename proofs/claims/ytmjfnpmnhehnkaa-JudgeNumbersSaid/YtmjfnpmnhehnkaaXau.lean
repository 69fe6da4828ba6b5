/- We, Uj, Uk, Vz, FlC -/
import Derived.Test.YtmjfnpmnhehnkaaXat
import Derived.Test.YtmjfnpmnhehnkaaXat
import Derived.Lib.SlBytesConst
namespace Go.Proofs.Ytmjfnpmnhehnkaa
open Go.RowKit
theorem Rc.eq_iff (a b : Rc) : a = b ↔ (a.why = b.why ∧ a.id = b.id ∧ a.gen = b.gen ∧ a.left = b.left ∧ a.sec = b.sec ∧ a.client = b.client ∧ a.num = b.num) := by
 cases a; cases b; simp
instance : DecidableEq Rc := fun a b => decidable_of_iff _ (Rc.eq_iff a b).symm
set_option maxHeartbeats 8000000 in
set_option maxRecDepth 100000 in
theorem rreplies_any (a b : Rt) (w : World) (ha : RI w a) (hb : RI w b) : Calls Try.prog 75 #[a.V, b.V] w fun e w' => e = .returned (.bool (decide (a.ct = b.ct))) ∧ Ex w w' := by
 obtain ⟨R, hR⟩ : ∃ R, R = decide (a.ct = b.ct) := ⟨_, rfl⟩
 have HD : Hid (R = true ↔ (a.why = b.why ∧ a.id = b.id ∧ a.gen = b.gen ∧ a.left = b.left ∧ a.sec.l = b.sec.l ∧ a.client = b.client ∧ a.num = b.num)) := Hi (by rw [hR, decide_eq_true_iff, Rc.eq_iff]; exact Iff.rfl)
 rw [← hR]
 obtain ⟨cs, hcs⟩ : ∃ cs, cs = a.C.toArray := ⟨_, rfl⟩
 obtain ⟨ds, hds⟩ : ∃ cs, cs = b.C.toArray := ⟨_, rfl⟩
 have A0 : Hid (RB ((w.alloc (.cells cs 83)).alloc (.cells ds 83)) w.heap.size a) := Hi ⟨ha.ok, by rw [hcs]; exact (Bk.new rfl _ _).more _⟩
 have B0 : Hid (RB ((w.alloc (.cells cs 83)).alloc (.cells ds 83)) (w.heap.size + 1) b) := Hi ⟨hb.ok, by rw [hds]; exact Bk.new (by simp) _ _⟩
 have BW : Hid (Ex w ((w.alloc (.cells cs 83)).alloc (.cells ds 83))) := Hi (Ex.trans (Ex.alloc w _) (Ex.alloc _ _))
 have AI := Hi (ha.ext BW.out)
 have BI := Hi (hb.ext BW.out)
 rw [show (Calls Try.prog 75 #[a.V, b.V] w) = (Calls Try.prog 75 #[.agg cs, .agg ds] w) by rw [hcs, hds]; rfl]
 clear hcs hds ha hb hR
 go_enter Try.func75, Try.ntmps75
 go_wp2_with ((with_reducible refine so3 [2000, 45] ?_ ?_); (focus rfl))
 (with_reducible refine ⟨?_⟩)
 change wpList _ _ _ _ _ ((w.alloc (.cells cs 83)).alloc (.cells ds 83))
 generalize hw1 : (w.alloc (.cells cs 83)).alloc (.cells ds 83) = w1 at *
 clear hw1
 obtain ⟨B, hB⟩ : ∃ B, B = w.heap.size := ⟨_, rfl⟩
 rw [← hB] at A0 B0 ⊢
 clear hB
 obtain ⟨a0, a5, a6, a7, a8, a9⟩ := A0.out.cells
 obtain ⟨b0, b5, b6, b7, b8, b9⟩ := B0.out.cells
 have c1 := pt_conv a.sec w1 AI.out.sec
 have c2 := pt_conv b.sec w1 BI.out.sec
 have HS := Hi (strL_beq a.sec.l b.sec.l)
 generalize strL a.sec.l = sa at *
 generalize strL b.sec.l = sb at *
 unfold Pt.V at a7 b7
 go_wp2_with ((with_reducible refine so3 [2000] ?_ ?_); (focus rfl))
 refine at9 (by go_simp) fun K0 hK => wp_eql_err _ _ _ rfl a.why b.why rfl rfl (hK _ _ ?_)
 clear hK
 by_cases hwhy : a.why = b.why
 case neg =>
  rw [decide_eq_false hwhy]
  go_wp2_with fail
  go_ret
  have e : R = false := by
   cases hR : R with
   | false => rfl
   | true => exact absurd (HD.out.1 hR).1 hwhy
  exact ⟨congrArg (fun b => Ending.returned (.bool b)) e.symm, BW.out⟩
 rw [decide_eq_true hwhy]
 have Hwhy := Hi hwhy
 clear hwhy
 go_wp2_with ((with_reducible refine so3 [2000] ?_ ?_); (focus rfl))
 refine at9 (by go_simp) fun K0 hK => ld_rid _ _ a rfl rfl A0.out (hK _ _ ?_)
 clear hK
 go_wp2_with ((with_reducible refine so3 [2000] ?_ ?_); (focus rfl))
 refine at9 (by go_simp) fun K0 hK => ld_rid _ _ b rfl rfl B0.out (hK _ _ ?_)
 clear hK
 go_wp2_with ((with_reducible refine so3 [2000] ?_ ?_); (focus rfl))
 refine at9 (by go_simp) fun K0 hK => wp_eql_id _ _ _ rfl a.id b.id A0.out.1.idN B0.out.1.idN rfl rfl (hK _ _ ?_)
 clear hK
 by_cases hid : a.id = b.id
 case neg =>
  rw [decide_eq_false hid]
  go_wp2_with fail
  go_ret
  have e : R = false := by
   cases hR : R with
   | false => rfl
   | true => exact absurd (HD.out.1 hR).2.1 hid
  exact ⟨congrArg (fun b => Ending.returned (.bool b)) e.symm, BW.out⟩
 rw [decide_eq_true hid]
 have Hid := Hi hid
 clear hid
 go_wp2_with ((with_reducible refine so3 [2000] ?_ ?_); (focus rfl))
 refine at9 (by go_simp) fun K0 hK => wp_eql_u64 _ _ _ rfl a.gen b.gen rfl rfl (hK _ _ ?_)
 clear hK
 by_cases hgen : a.gen = b.gen
 case neg =>
  rw [decide_eq_false hgen]
  go_wp2_with fail
  go_ret
  have e : R = false := by
   cases hR : R with
   | false => rfl
   | true => exact absurd (HD.out.1 hR).2.2.1 hgen
  exact ⟨congrArg (fun b => Ending.returned (.bool b)) e.symm, BW.out⟩
 rw [decide_eq_true hgen]
 have Hgen := Hi hgen
 clear hgen
 go_wp2_with ((with_reducible refine so3 [2000] ?_ ?_); (focus rfl))
 refine at9 (by go_simp) fun K0 hK => wp_eql_i64 _ _ _ rfl a.left b.left rfl rfl (hK _ _ ?_)
 clear hK
 by_cases hleft : a.left = b.left
 case neg =>
  rw [decide_eq_false hleft]
  go_wp2_with fail
  go_ret
  have e : R = false := by
   cases hR : R with
   | false => rfl
   | true => exact absurd (HD.out.1 hR).2.2.2.1 hleft
  exact ⟨congrArg (fun b => Ending.returned (.bool b)) e.symm, BW.out⟩
 rw [decide_eq_true hleft]
 have Hleft := Hi hleft
 clear hleft
 go_wp2_with ((with_reducible refine so3 [2000] ?_ ?_); (focus rfl))
 refine at9 (by go_simp) fun K0 hK => wp_eql_s _ _ _ rfl sa sb rfl rfl _ HS.out (hK _ _ ?_)
 clear hK
 clear HS
 by_cases hsec : a.sec.l = b.sec.l
 case neg =>
  rw [decide_eq_false hsec]
  go_wp2_with fail
  go_ret
  have e : R = false := by
   cases hR : R with
   | false => rfl
   | true => exact absurd (HD.out.1 hR).2.2.2.2.1 hsec
  exact ⟨congrArg (fun b => Ending.returned (.bool b)) e.symm, BW.out⟩
 rw [decide_eq_true hsec]
 have Hsec := Hi hsec
 clear hsec
 go_wp2_with ((with_reducible refine so3 [2000] ?_ ?_); (focus rfl))
 refine at9 (by go_simp) fun K0 hK => wp_eql_i64 _ _ _ rfl a.client b.client rfl rfl (hK _ _ ?_)
 clear hK
 by_cases hclient : a.client = b.client
 case neg =>
  rw [decide_eq_false hclient]
  go_wp2_with fail
  go_ret
  have e : R = false := by
   cases hR : R with
   | false => rfl
   | true => exact absurd (HD.out.1 hR).2.2.2.2.2.1 hclient
  exact ⟨congrArg (fun b => Ending.returned (.bool b)) e.symm, BW.out⟩
 rw [decide_eq_true hclient]
 have Hclient := Hi hclient
 clear hclient
 go_wp2_with ((with_reducible refine so3 [2000] ?_ ?_); (focus rfl))
 refine at9 (by go_simp) fun K0 hK => wp_eql_u64 _ _ _ rfl a.num b.num rfl rfl (hK _ _ ?_)
 clear hK
 by_cases hnum : a.num = b.num
 case neg =>
  rw [decide_eq_false hnum]
  go_wp2_with fail
  go_ret
  have e : R = false := by
   cases hR : R with
   | false => rfl
   | true => exact absurd (HD.out.1 hR).2.2.2.2.2.2 hnum
  exact ⟨congrArg (fun b => Ending.returned (.bool b)) e.symm, BW.out⟩
 rw [decide_eq_true hnum]
 have Hnum := Hi hnum
 clear hnum
 go_wp2_with fail
 go_ret
 have e : R = true := HD.out.2 ⟨Hwhy.out, Hid.out, Hgen.out, Hleft.out, Hsec.out, Hclient.out, Hnum.out⟩
 exact ⟨congrArg (fun b => Ending.returned (.bool b)) e.symm, BW.out⟩
end Go.Proofs.Ytmjfnpmnhehnkaa
namespace Go.Proofs.Ytmjfnpmnhehnkaa
open Go.RowKit
/-- a block of another type stays when a table is turned -/
theorem Tc.obj9 {w w' : World} {D : Nat} {rv : Value} {vs : List Vt} (k : Tc D rv.ownBlock w w') (ht : TB w D rv vs) {g : Nat} {t : TypeId} {cs : Array Value} {fr : Nat × Nat} (hb : w.heap[g]? = some (.cells cs t fr)) (h1 : t ≠ 169) (h2 : t ≠ 36) : w'.heap[g]? = some (.cells cs t fr) := by
 refine (k.block g (Array.getElem?_eq_some_iff.1 hb).1 (fun e => ?_) (fun e => ?_)).trans hb
 ·subst e
  have h3 := ht.blk
  unfold Bk at h3; rw [hb] at h3; exact h1 (Obj.cells.inj (Option.some.inj h3)).2.1
 rcases ht.row.blk with h3 | ⟨gb, h3, _, _, cs2, hb2⟩
 ·rw [h3] at e; cases e
 rw [h3] at e; cases e
 unfold Bk at hb2; rw [hb] at hb2; exact h2 (Obj.cells.inj (Option.some.inj hb2)).2.1
theorem Ex.obj9 {w w' : World} (k : Ex w w') {g : Nat} {o : Obj} (hb : w.heap[g]? = some o) : w'.heap[g]? = some o := (k.block g (Array.getElem?_eq_some_iff.1 hb).1).trans hb
/-- one vault, in table s -/
def OneK (v : Nat → List Vt) (s : Nat) : Prop := ∃ z : Vt, z.ct = k3z ∧ v s = [z] ∧ ∀ i, i < 16 → i ≠ s → v i = []
def At5 (w0 w : World) (f : Value) (P : Rt → Prop) (b : Bool) : Prop := ∃ h y, f = .pointer (some ⟨h, 0, none⟩) ∧ w0.heap.size ≤ h ∧ RB w h y ∧ (b = true → P y)
def Y1 (y : Rt) : Prop := y.why = 0 ∧ y.gen = 1
def Y2 (y : Rt) : Prop := y.why = 14
structure K5 (w0 : World) (M : Nat) (D : Nat → Nat) (s g g1 : Nat) (b2 b6 b7 b8 b9 : Bool) (f6 f7 : Value) (w : World) : Prop where
 ext : Ex w0 w
 sec : w.heap[g]? = some (.cells #[.int .u8 115] 5 (1, 2))
 q : QB w g1 (k3q g)
 im : ∃ r v, IM w w0.heap.size M D r v ∧ (b2 = false → ∀ i, i < 16 → v i = []) ∧ (b2 = true → OneK v s)
 a6 : b6 = true → At5 w0 w f6 Y1 b8
 a7 : b7 = true → At5 w0 w f7 Y2 b9
 ne : b6 = true → b7 = true → f6 ≠ f7
theorem At5.ext {w0 w w' : World} {f : Value} {P : Rt → Prop} {b : Bool} (h : At5 w0 w f P b) (k : Ex w w') : At5 w0 w' f P b := by
 obtain ⟨h, y, e, h1, h2, h3⟩ := h
 exact ⟨h, y, e, h1, h2.ext k, h3⟩
theorem K5.grow {w0 : World} {M : Nat} {D : Nat → Nat} {s g g1 : Nat} {b2 b6 b7 b8 b9 : Bool} {f6 f7 : Value} {w w' : World} (h : K5 w0 M D s g g1 b2 b6 b7 b8 b9 f6 f7 w) (k : Ex w w') : K5 w0 M D s g g1 b2 b6 b7 b8 b9 f6 f7 w' :=
 ⟨Ex.trans h.ext k, k.obj9 h.sec, h.q.ext k, by obtain ⟨r, v, h1, h2⟩ := h.im; exact ⟨r, v, h1.ext k, h2⟩, fun e => (h.a6 e).ext k, fun e => (h.a7 e).ext k, h.ne⟩
theorem At5.tc {w0 w w' : World} {f : Value} {P : Rt → Prop} {b : Bool} {D : Nat} {rv : Value} {vs : List Vt} (h : At5 w0 w f P b) (k : Tc D rv.ownBlock w w') (ht : TB w D rv vs) : At5 w0 w' f P b := by
 obtain ⟨h, y, e, h1, h2, h3⟩ := h
 exact ⟨h, y, e, h1, ⟨h2.1, k.kt9 ht h2.2 (by decide) (by decide)⟩, h3⟩
theorem At5.only {w0 w w' : World} {f : Value} {P : Rt → Prop} {b : Bool} {g : Nat} (h : At5 w0 w f P b) (k : Only g w w') (hn : f ≠ .pointer (some ⟨g, 0, none⟩)) : At5 w0 w' f P b := by
 obtain ⟨h, y, rfl, h1, h2, h3⟩ := h
 exact ⟨h, y, rfl, h1, k.rb h2 (fun e => hn (by rw [e])), h3⟩
/-- a Do of the first or second kind -/
theorem K5.turn {w0 : World} {M : Nat} {D : Nat → Nat} {s g g1 : Nat} {b2 b6 b7 b8 b9 : Bool} {f6 f7 : Value} {w w' : World} {r r' : Nat → Value} {v v' : Nat → List Vt} (h : K5 w0 M D s g g1 b2 b6 b7 b8 b9 f6 f7 w) (hs : s < 16) (him : IM w w0.heap.size M D r v) (k : Tc (D s) (r s).ownBlock w w') (him' : IM w' w0.heap.size M D r' v') (ho : OneK v' s) : K5 w0 M D s g g1 true b6 b7 b8 b9 f6 f7 w' := by
 have ht := him.ts.tb s hs
 exact ⟨k.ex9 ht h.ext (him.ts.lo s hs), k.obj9 ht h.sec (by decide) (by decide), ⟨h.q.1, k.kt9 ht h.q.2 (by decide) (by decide)⟩, ⟨r', v', him', (fun e => by cases e), fun _ => ho⟩, fun e => (h.a6 e).tc k ht, fun e => (h.a7 e).tc k ht, h.ne⟩
theorem At5.lt {w0 w : World} {f : Value} {P : Rt → Prop} {b : Bool} (h : At5 w0 w f P b) : f ≠ .pointer (some ⟨w.heap.size, 0, none⟩) := by
 obtain ⟨h, y, rfl, _, h2, _⟩ := h
 intro e
 have h3 := h2.lt
 injection e with e; injection e with e; injection e with e
 omega
/-- the state by what's listed -/
def S5 (w0 : World) (M : Nat) (D : Nat → Nat) (s g g1 : Nat) (l : Array Bool) (f : Nat → Value) (w : World) : Prop :=
 K5 w0 M D s g g1 (l.getD 2 false) (l.getD 6 false) (l.getD 7 false) (l.getD 8 false) (l.getD 9 false) (f 6) (f 7) w
section
variable {w0 : World} {M : Nat} {D : Nat → Nat} {s g g1 : Nat} {l : Array Bool} {f : Nat → Value} {w w' : World} {x : Value}
theorem S5.plain (h : S5 w0 M D s g g1 l f w) (i : Nat) (hi : i ≠ 2 ∧ i ≠ 6 ∧ i ≠ 7 ∧ i ≠ 8 ∧ i ≠ 9) (k : Ex w w') : S5 w0 M D s g g1 (l.setIfInBounds i true) (upd f i x) w' := by
 unfold S5
 rw [gset hi.1 false, gset hi.2.1 false, gset hi.2.2.1 false, gset hi.2.2.2.1 false, gset hi.2.2.2.2 false, upd_ne _ _ (Ne.symm hi.2.1), upd_ne _ _ (Ne.symm hi.2.2.1)]
 exact K5.grow h k
theorem S5.s5 (h : K5 w0 M D s g g1 (l.getD 2 false) (l.getD 6 false) (l.getD 7 false) (l.getD 8 false) (l.getD 9 false) (f 6) (f 7) w') : S5 w0 M D s g g1 (l.setIfInBounds 5 true) (upd f 5 x) w' := by
 unfold S5
 rw [gset (by decide) false, gset (by decide) false, gset (by decide) false, gset (by decide) false, gset (by decide) false, upd_ne _ _ (by decide), upd_ne _ _ (by decide)]
 exact h
theorem S5.s2 (hl : 2 < l.size) (h : K5 w0 M D s g g1 true (l.getD 6 false) (l.getD 7 false) (l.getD 8 false) (l.getD 9 false) (f 6) (f 7) w') : S5 w0 M D s g g1 (l.setIfInBounds 2 true) (upd f 2 x) w' := by
 unfold S5
 rw [set_new hl, gset (by decide) false, gset (by decide) false, gset (by decide) false, gset (by decide) false, upd_ne _ _ (by decide), upd_ne _ _ (by decide)]
 exact h
theorem S5.s6 (hl : 6 < l.size) (h : K5 w0 M D s g g1 (l.getD 2 false) true (l.getD 7 false) (l.getD 8 false) (l.getD 9 false) x (f 7) w') : S5 w0 M D s g g1 (l.setIfInBounds 6 true) (upd f 6 x) w' := by
 unfold S5
 rw [set_new hl, gset (by decide) false, gset (by decide) false, gset (by decide) false, gset (by decide) false, upd_same, upd_ne _ _ (by decide)]
 exact h
theorem S5.s8 (hl : 8 < l.size) (h : K5 w0 M D s g g1 (l.getD 2 false) (l.getD 6 false) (l.getD 7 false) true (l.getD 9 false) (f 6) (f 7) w') : S5 w0 M D s g g1 (l.setIfInBounds 8 true) (upd f 8 x) w' := by
 unfold S5
 rw [set_new hl, gset (by decide) false, gset (by decide) false, gset (by decide) false, gset (by decide) false, upd_ne _ _ (by decide), upd_ne _ _ (by decide)]
 exact h
theorem S5.s9 (hl : 9 < l.size) (h : K5 w0 M D s g g1 (l.getD 2 false) (l.getD 6 false) (l.getD 7 false) (l.getD 8 false) true (f 6) (f 7) w') : S5 w0 M D s g g1 (l.setIfInBounds 9 true) (upd f 9 x) w' := by
 unfold S5
 rw [set_new hl, gset (by decide) false, gset (by decide) false, gset (by decide) false, gset (by decide) false, upd_ne _ _ (by decide), upd_ne _ _ (by decide)]
 exact h
end
end Go.Proofs.Ytmjfnpmnhehnkaa
namespace Go.Proofs.Ytmjfnpmnhehnkaa
open Go.RowKit
end Go.Proofs.Ytmjfnpmnhehnkaa
namespace Go.Proofs.Ytmjfnpmnhehnkaa
open Go.RowKit
def DigPost (n : Nat) (w : World) (e : Ending) (w' : World) : Prop := ∃ d : List UInt8, e = .returned (digV d) ∧ d.length = n ∧ Ex w w'
theorem u8_of (a : Int) : ∃ x : UInt8, (x.toNat : Int) = a % 256 := by
 refine ⟨UInt8.ofNat (a % 256).toNat, ?_⟩
 rw [UInt8.toNat_ofNat_of_lt' (by have := Int.emod_lt_of_pos a (show (0:Int) < 256 by decide); have := Int.emod_nonneg a (show (256:Int) ≠ 0 by decide); show (a % 256).toNat < 256; omega)]
 have := Int.emod_nonneg a (show (256:Int) ≠ 0 by decide)
 omega
theorem built_d (x y : UInt8) : Try.prog.built 34 [(0, .int .u8 x.toNat), (1, .int .u8 y.toNat), (2, .int .u8 3)] = some (Lib.byteCells [x, y, 3, 0, 0, 0, 0, 0, 0, 0, 0, 0, 0, 0, 0, 0]).toArray := by kernel_rfl
theorem st_new {o : Oper} {a : Act} {w : World} {K : Act → World → Prop} {Q : Exit → Act → World → Prop} {ty : TypeId} (x y : Operand) (g : Nat) (L : List UInt8) (C : Array Value) (ho : o.op = .store ty x y) (ha : a.eval x = .pointer (some ⟨g, 0, none⟩)) (hy : a.eval y = digV L) (hB : Bk w g ty C) (hC : C.size = L.length)
  (hs : (Try.prog.info? ty).map (·.size) = some L.length) (hk : ∀ w', Bk w' g ty (Lib.byteCells L).toArray → Only g w w' → K (a.put o.dst undef) w') : o.wp Try.prog a w K Q := by
 have hB' : Bk w g ty C.toList.toArray := by simpa using hB
 refine wp_stp (Lib.byteCells L) x y g 0 ho ha hy hB' (by rw [byteCells_len]; simp; omega) (by rw [byteCells_len]; exact hs) (bytes_one L) (fun w' h1 h2 => hk w' ?_ h2)
 have e : C.toList.take 0 ++ Lib.byteCells L ++ C.toList.drop (0 + (Lib.byteCells L).length) = Lib.byteCells L := by
  rw [List.take_zero, List.nil_append, List.drop_eq_nil_of_le (by rw [byteCells_len]; simp; omega), List.append_nil]
 rw [e] at h1; exact h1
theorem res_dig {fn : Func} {a : Tmp} {ty : TypeId} (h : fn.results = #[.cell a ty]) (tmps : Array Value) (w : World) (g : Nat) (ha : tmps.getD a undef = .pointer (some ⟨g, 0, none⟩)) {L : List UInt8} (hB : Bk w g ty (Lib.byteCells L).toArray) {dd : TypeDesc} (hu : Try.prog.underlying ty = some dd) (hr : dd.isRow = true) (hs : (Try.prog.info? ty).map (·.size) = some L.length) :
  (results fn tmps).run Try.prog w = .ok (digV L) w := res_row1 h tmps w g ha hB hu hr (by rw [byteCells_len]; exact hs)
set_option maxHeartbeats 4000000 in
set_option maxRecDepth 100000 in
theorem d_any (n : Int) (hn : -9223372036854775808 ≤ n ∧ n ≤ 9223372036854775807) (w : World) : Calls Try.prog 68 #[.int .i64 n] w (DigPost 16 w) := by
 obtain ⟨n0, n1⟩ := hn
 obtain ⟨x, hx⟩ := u8_of n
 have HX := Hi hx
 obtain ⟨y, hy⟩ := u8_of (n / 256)
 have HY := Hi hy
 clear hx hy
 go_enter Try.func68, Try.ntmps68
 go_wp2_with ((with_reducible refine so0 ?_ ?_); (focus rfl))
 refine at9 (by go_simp) fun K0 hK => wp_build _ _ rfl _ ((show Try.prog.built 34 [(0, .int .u8 (n % 256)), (1, .int .u8 (n / 256 % 256)), (2, .int .u8 3)] = some (Lib.byteCells [x, y, 3, 0, 0, 0, 0, 0, 0, 0, 0, 0, 0, 0, 0, 0]).toArray from by rw [← HX.out, ← HY.out]; exact built_d x y)) (hK _ _ ?_)
 clear hK
 go_wp2_with ((with_reducible refine so0 ?_ ?_); (focus rfl))
 refine at9 (by go_simp) fun K0 hK => st_new _ _ w.heap.size [x, y, 3, 0, 0, 0, 0, 0, 0, 0, 0, 0, 0, 0, 0, 0] _ rfl rfl rfl (Bk.new rfl _ _) rfl Try.sizeDig (fun w3 hd ho => hK _ _ ?_)
 clear hK
 have X := ho.below w.heap.size (Nat.le_refl _) w (Ex.alloc w _)
 clear ho
 go_wp2_with fail
 exact bodyPost_ret (res_dig rfl _ _ w.heap.size rfl hd Try.underlying34 rfl Try.sizeDig) rfl ⟨_, rfl, rfl, X⟩
def i64 (n : Int) : Prop := -9223372036854775808 ≤ n ∧ n ≤ 9223372036854775807
end Go.Proofs.Ytmjfnpmnhehnkaa
namespace Go.Proofs.Ytmjfnpmnhehnkaa
open Go.RowKit
section
variable {P : Program} {ops : Array Oper} {Q : Exit → Act → World → Prop} {a0 : Act} {w0 : World} {φ : Nat → Value → World → Prop}
def nextB (ops : Array Oper) (N : Nat) : Bool := match ops[N + 1]? with
  | none => false
  | some o => o.after.toList.any fun e => Region.binds .any e && e.on == N
theorem wpOp_do {N : Nat} {o : Oper} {K : Act → World → Prop} {a : Act} {w : World} (ho : ops[N]? = some o) (hw : Region.wanted o (yielded ops a.tmps) = true) (h : o.wp P a w K Q) : wpOp P ops Q N K a w := by
  unfold wpOp
  simp only [ho]
  rw [if_pos hw]
  exact .inl h
end
end Go.Proofs.Ytmjfnpmnhehnkaa
