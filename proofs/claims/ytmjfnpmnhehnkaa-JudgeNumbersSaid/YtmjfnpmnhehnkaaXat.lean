/- SoA, Ud, Ue, Uf, Ug, Uh -/
import Derived.Test.YtmjfnpmnhehnkaaXas
import Derived.Test.YtmjfnpmnhehnkaaXao
namespace Go.Proofs.Ytmjfnpmnhehnkaa.Sm
open Go.RowKit
theorem cons_of (n : Nat) (l : List UInt8) (h : l.length = n + 1) : ∃ x m, l = x :: m ∧ m.length = n := by
 cases l with
 | nil => cases h
 | cons x m => exact ⟨x, m, rfl, by simpa using h⟩
theorem len16 (l : List UInt8) (h : l.length = 16) : ∃ x0 x1 x2 x3 x4 x5 x6 x7 x8 x9 x10 x11 x12 x13 x14 x15 : UInt8, l = [x0, x1, x2, x3, x4, x5, x6, x7, x8, x9, x10, x11, x12, x13, x14, x15] := by
 obtain ⟨x0, l0, rfl, h0⟩ := cons_of 15 l h
 obtain ⟨x1, l1, rfl, h1⟩ := cons_of 14 l0 h0
 obtain ⟨x2, l2, rfl, h2⟩ := cons_of 13 l1 h1
 obtain ⟨x3, l3, rfl, h3⟩ := cons_of 12 l2 h2
 obtain ⟨x4, l4, rfl, h4⟩ := cons_of 11 l3 h3
 obtain ⟨x5, l5, rfl, h5⟩ := cons_of 10 l4 h4
 obtain ⟨x6, l6, rfl, h6⟩ := cons_of 9 l5 h5
 obtain ⟨x7, l7, rfl, h7⟩ := cons_of 8 l6 h6
 obtain ⟨x8, l8, rfl, h8⟩ := cons_of 7 l7 h7
 obtain ⟨x9, l9, rfl, h9⟩ := cons_of 6 l8 h8
 obtain ⟨x10, l10, rfl, h10⟩ := cons_of 5 l9 h9
 obtain ⟨x11, l11, rfl, h11⟩ := cons_of 4 l10 h10
 obtain ⟨x12, l12, rfl, h12⟩ := cons_of 3 l11 h11
 obtain ⟨x13, l13, rfl, h13⟩ := cons_of 2 l12 h12
 obtain ⟨x14, l14, rfl, h14⟩ := cons_of 1 l13 h13
 obtain ⟨x15, l15, rfl, h15⟩ := cons_of 0 l14 h14
 obtain rfl : l15 = [] := List.eq_nil_of_length_eq_zero h15
 exact ⟨_, _, _, _, _, _, _, _, _, _, _, _, _, _, _, _, rfl⟩
theorem digV_lit (x0 x1 x2 x3 x4 x5 x6 x7 x8 x9 x10 x11 x12 x13 x14 x15 : UInt8) : digV [x0, x1, x2, x3, x4, x5, x6, x7, x8, x9, x10, x11, x12, x13, x14, x15] = .agg #[.int .u8 x0.toNat, .int .u8 x1.toNat, .int .u8 x2.toNat, .int .u8 x3.toNat, .int .u8 x4.toNat, .int .u8 x5.toNat, .int .u8 x6.toNat, .int .u8 x7.toNat, .int .u8 x8.toNat, .int .u8 x9.toNat, .int .u8 x10.toNat, .int .u8 x11.toNat, .int .u8 x12.toNat, .int .u8 x13.toNat, .int .u8 x14.toNat, .int .u8 x15.toNat] := rfl
def shV (l : List UInt8) : Int := (((sumL l).getD 0 0).toNat : Int) % 16
theorem and15 (x : UInt8) : bits .and .u8 (x.toNat : Int) 15 = (x.toNat : Int) % 16 := by
 have := x.toNat_lt
 rw [u8_and _ _ (by omega) (by omega) (by omega) (by omega)]
 have e : ((15 : Int).toNat) = 15 := rfl
 rw [e, nat_mask4]; simp
theorem sumL_len (l : List UInt8) : (sumL l).length = 16 := rfl
set_option maxHeartbeats 4000000 in
set_option maxRecDepth 100000 in
theorem of_any (l : List UInt8) (hl : l.length = 4) (w : World) :
  Calls Try.prog 59 #[digV l] w fun e w' => e = .returned (.int .i64 (shV l)) ∧ Below w.heap.size w w' := by
 obtain ⟨cs, hcs⟩ : ∃ cs, cs = Lib.byteCells l := ⟨_, rfl⟩
 have hcl : cs.toArray.size = 4 := by rw [hcs]; simp [Lib.byteCells, hl]
 have hv : digV l = .agg cs.toArray := by rw [hcs]; rfl
 have G := sum_core l (some ⟨w.heap.size, 0, none⟩) w.heap.size 0 4 (by omega) (by omega) (w.alloc (.cells cs.toArray 32)) (fun _ => rfl) (by simp) (fun i hi => by
  have h := (Bk.new (w := w) rfl 32 cs.toArray).cell (0 + i)
  rw [h, Nat.zero_add, hcs]
  simp [Lib.byteCells, hi])
 rw [hl] at G
 obtain ⟨x0, x1, x2, x3, x4, x5, x6, x7, x8, x9, x10, x11, x12, x13, x14, x15, hx⟩ := len16 (sumL l) (sumL_len l)
 have hs : shV l = (x0.toNat : Int) % 16 := by unfold shV; rw [hx]; rfl
 rw [hx, digV_lit] at G
 have HS := Lib.hid hs
 have G := Lib.hid G
 rw [hv]
 clear hx hs hv hcs hl
 go_enter Try.func59, Try.ntmps59
 go_wp2_with fail
 refine G.out.mono ?_
 rintro e w1 ⟨rfl, b1⟩
 clear G
 have bw := ((Below.refl w.heap.size w).alloc (Nat.le_refl _) (.cells cs.toArray 32)).trans (b1.mono (by simp))
 have hz := bw.size
 go_wp2_with fail
 go_ret
 exact ⟨smret (congrArg (Value.int .i64) (by rw [and15 x0, IntWalk.wrap64_in _ ⟨by omega, by omega⟩]; exact HS.out.symm)), bw.alloc hz _⟩
set_option maxHeartbeats 4000000 in
set_option maxRecDepth 100000 in
theorem rof_any (l : List UInt8) (hl : l.length = 4) (w : World) :
  Calls Try.prog 33 #[digV l] w fun e w' => e = .returned (.int .i64 (shV l)) ∧ Below w.heap.size w w' := by
 obtain ⟨cs, hcs⟩ : ∃ cs, cs = Lib.byteCells l := ⟨_, rfl⟩
 have hcl : cs.toArray.size = 4 := by rw [hcs]; simp [Lib.byteCells, hl]
 have hv : digV l = .agg cs.toArray := by rw [hcs]; rfl
 have G := rsum_core l (some ⟨w.heap.size, 0, none⟩) w.heap.size 0 4 (by omega) (fun h => by cases h) (by omega) (w.alloc (.cells cs.toArray 32)) (fun _ => rfl) (by simp) (fun i hi => by
  have h := (Bk.new (w := w) rfl 32 cs.toArray).cell (0 + i)
  rw [h, Nat.zero_add, hcs]
  simp [Lib.byteCells, hi])
 rw [hl] at G
 obtain ⟨x0, x1, x2, x3, x4, x5, x6, x7, x8, x9, x10, x11, x12, x13, x14, x15, hx⟩ := len16 (sumL l) (sumL_len l)
 have hs : shV l = (x0.toNat : Int) % 16 := by unfold shV; rw [hx]; rfl
 rw [hx, digV_lit] at G
 have HS := Lib.hid hs
 have G := Lib.hid G
 rw [hv]
 clear hx hs hv hcs hl
 go_enter Try.func33, Try.ntmps33
 go_wp2_with fail
 refine G.out.mono ?_
 rintro e w1 ⟨rfl, b1⟩
 clear G
 have bw := ((Below.refl w.heap.size w).alloc (Nat.le_refl _) (.cells cs.toArray 32)).trans (b1.mono (by simp))
 have hz := bw.size
 go_wp2_with fail
 go_ret
 exact ⟨smret (congrArg (Value.int .i64) HS.out.symm), bw.alloc hz _⟩
end Go.Proofs.Ytmjfnpmnhehnkaa.Sm
namespace Go.Proofs.Ytmjfnpmnhehnkaa
open Go.RowKit
theorem shv_range (id : List UInt8) : ∃ s : Nat, Sm.shV id = (s : Int) ∧ s < 16 := by
 refine ⟨(Sm.shV id).toNat, ?_, ?_⟩ <;> unfold Sm.shV <;> omega
theorem iof_any (id : List UInt8) (hid : id.length = 4) (s : Nat) (hs : Sm.shV id = (s : Int)) (w : World) : Calls Try.prog 59 #[digV id] w fun e w' => e = .returned (.int .i64 s) ∧ Ex w w' := by
 refine (Sm.of_any id hid w).mono ?_
 rintro e w' ⟨rfl, h⟩
 exact ⟨by rw [hs], h⟩
/-- what Get of a table tells -/
def GetDet (vs : List Vt) (X : Nat) (c : Vc) (b : Bool) : Prop := b = decide (∃ q, q < vs.length ∧ idF vs q = X) ∧ (b = true → ∃ q y, vs[q]? = some y ∧ idF vs q = X ∧ c = y.ct) ∧ (b = false → c = zeroVc)
theorem get_det (vs : List Vt) (X : Nat) : ∃ c b, GetDet vs X c b := by
 by_cases h : ∃ q, q < vs.length ∧ idF vs q = X
 ·obtain ⟨q, hq, hx⟩ := h
  exact ⟨vs[q].ct, true, by symm; exact decide_eq_true ⟨q, hq, hx⟩, fun _ => ⟨q, vs[q], List.getElem?_eq_getElem hq, hx, rfl⟩, fun h => by cases h⟩
 exact ⟨zeroVc, false, by symm; exact decide_eq_false h, (fun h => by cases h), fun _ => rfl⟩
def IGet (c : Vc) (b : Bool) (w : World) (e : Ending) (w' : World) : Prop := ∃ x : Vt, e = .returned (.tuple #[x.V, .bool b]) ∧ x.ct = c ∧ TVN w' x ∧ Ex w w'
theorem tget_det {D : Nat} {rv : Value} {vs : List Vt} {c : Vc} {b : Bool} (id : List UInt8) (hid : id.length = 4) (hd : GetDet vs (idn id) c b) (w : World) (h : TB w D rv vs) : Calls Try.prog 71 #[.pointer (some ⟨D, 0, none⟩), digV id] w (IGet c b w) := by
 refine (tget_any D rv vs id w h hid).mono ?_
 rintro e w' ⟨x, b2, rfl, hb, h1, h2, hn, hx⟩
 obtain rfl : b2 = b := by rw [hb, hd.1]
 refine ⟨x, rfl, ?_, hn, hx⟩
 cases b2 with
 | false => rw [h2 rfl, hd.2.2 rfl]
 | true =>
  obtain ⟨q, y, e1, e2, e3⟩ := h1 rfl
  obtain ⟨q2, y2, f1, f2, f3⟩ := hd.2.1 rfl
  have l1 := (List.getElem?_eq_some_iff.1 e1).1
  have l2 := (List.getElem?_eq_some_iff.1 f1).1
  obtain rfl : q = q2 := by
   rcases Nat.lt_trichotomy q q2 with h9 | h9 | h9
   ·have := h.srt q q2 h9 l2; omega
   ·exact h9
   ·have := h.srt q2 q h9 l1; omega
  rw [e1] at f1; cases f1
  rw [e3, f3]
end Go.Proofs.Ytmjfnpmnhehnkaa
namespace Go.Proofs.Ytmjfnpmnhehnkaa
open Go.RowKit
theorem IM.fill {w w3 w4 : World} {M k : Nat} {D : Nat → Nat} {r : Nat → Value} {v : Nat → List Vt} {rv' : Value} {zs : List Vt} (h : IM w3 w.heap.size M D r v) (x : Ex w w3) (hk : k < 16) (ht : TB w4 (D k) rv' zs) (hf : ∀ g, rv'.ownBlock = some g → w3.heap.size ≤ g) (k1 : Kt [169] (D k) w3 w4) (k2 : Md (D k) w3 w4) : IM w4 w.heap.size M D (updF r k rv') (updF v k zs) ∧ Ex w w4 :=
 ⟨⟨k1.bk h.blk (by decide), h.ts.fill hk ht k2 hf⟩, Below.trans x (k1.below.mono (h.ts.lo k hk))⟩
def ICopyPost (v : Nat → List Vt) (w : World) (e : Ending) (w' : World) : Prop := ∃ (M : Nat) (D : Nat → Nat) (r : Nat → Value) (v2 : Nat → List Vt), e = .returned (.pointer (some ⟨M, 0, none⟩)) ∧ IM w' w.heap.size M D r v2 ∧ w.heap.size ≤ M ∧ (∀ i, i < 16 → (v2 i).map Vt.ct = (v i).map Vt.ct) ∧ Ex w w'
end Go.Proofs.Ytmjfnpmnhehnkaa
namespace Go.Proofs.Ytmjfnpmnhehnkaa
open Go.RowKit
theorem built_full (id : List UInt8) (c n : Int) (h : id.length = 4) : Try.prog.built 83 [(0, .int .i64 13), (1, digV id), (5, .int .i64 c), (6, .int .u64 n)] = some (repRt 13 id c n).C.toArray := by
 obtain ⟨a, b, c, d, rfl⟩ := len4 h
 kernel_rfl
/-- what Put makes of a table's vaults -/
def PutRel (vs : List Vt) (x : Vt) (ls : List Vt) : Prop :=
 (x.ct.right = false ∧ ls = vs) ∨ (x.ct.right = true ∧ ∃ p z, BI vs.length (idF vs) (idn x.id) p ∧ z.ct = x.ct ∧ ((p < vs.length ∧ idF vs p = idn x.id ∧ ls = vs.set p z) ∨ (NotIn vs (idn x.id) ∧ vs.length = 4 ∧ ls = vs) ∨ (NotIn vs (idn x.id) ∧ vs.length < 4 ∧ ls = vs.take p ++ z :: vs.drop p)))
theorem updF_id {α : Type} (f : Nat → α) (k : Nat) : updF f k (f k) = f := by
 funext i; unfold updF; split
 ·rename_i h; rw [h]
 rfl
theorem put_im {w w' : World} {B M s : Nat} {D : Nat → Nat} {r : Nat → Value} {v : Nat → List Vt} {x : Vt} {e : Ending} (h : IM w B M D r v) (hs : s < 16) (hp : PutPost (D s) (r s) (v s) x w e w') : ∃ n r' ls, e = .returned (.int .i64 n) ∧ PutRel (v s) x ls ∧ IM w' B M D (updF r s r') (updF v s ls) ∧ Tc (D s) (r s).ownBlock w w' ∧ Lies w (r s) r' := by
 have hM : M ≠ D s := fun e9 => by
  have h1 := h.blk; have h2 := (h.ts.tb s hs).blk
  rw [e9] at h1; unfold Bk at h1 h2; rw [h1] at h2; exact absurd (Obj.cells.inj (Option.some.inj h2)).2.1 (by decide)
 have hM2 : some M ≠ (r s).ownBlock := fun e9 => by
  rcases (h.ts.tb s hs).row.blk with h3 | ⟨gb, h3, _, _, cs, hb⟩
  ·rw [h3] at e9; cases e9
  ·rw [h3] at e9; cases e9
   have h1 := h.blk
   unfold Bk at h1 hb; rw [h1] at hb; exact absurd (Obj.cells.inj (Option.some.inj hb)).2.1 (by decide)
 rcases hp with ⟨h1, rfl, h2⟩ | ⟨h1, p, h2, ⟨z, a1, a2, rfl, a3, a4, a5⟩ | ⟨a1, a2, rfl, a3⟩ | ⟨z, rv', a1, a2, rfl, a3, a4, a5, a6⟩⟩
 ·exact ⟨1, r s, v s, rfl, Or.inl ⟨h1, rfl⟩, by rw [updF_id, updF_id]; exact h.ext h2, h2.tc _ _, Or.inl rfl⟩
 ·exact ⟨0, r s, _, rfl, Or.inr ⟨h1, p, z, h2, a3, Or.inl ⟨a1, a2, rfl⟩⟩, ⟨a5.bk h.blk hM hM2, h.ts.turn hs a4 a5 (Or.inl rfl)⟩, a5, Or.inl rfl⟩
 ·exact ⟨13, r s, v s, rfl, Or.inr ⟨h1, p, x, h2, rfl, Or.inr (Or.inl ⟨a1, a2, rfl⟩)⟩, by rw [updF_id, updF_id]; exact h.ext a3, a3.tc _ _, Or.inl rfl⟩
 exact ⟨0, rv', _, rfl, Or.inr ⟨h1, p, z, h2, a3, Or.inr (Or.inr ⟨a1, a2, rfl⟩)⟩, ⟨a5.bk h.blk hM hM2, h.ts.turn hs a4 a5 a6⟩, a5, a6⟩
theorem IM.kts9 {B M : Nat} {w w' : World} {D : Nat → Nat} {r : Nat → Value} {v : Nat → List Vt} (h : IM w B M D r v) (k : Kt [83] 0 w w') : IM w' B M D r v := ⟨k.bk h.blk (by decide), h.ts.kts k (by decide) (by decide) (by decide)⟩
theorem Tc.kt9 {w w' : World} {D : Nat} {rv : Value} {vs : List Vt} (k : Tc D rv.ownBlock w w') (ht : TB w D rv vs) {g : Nat} {t : TypeId} {cs : Array Value} (hb : Bk w g t cs) (h1 : t ≠ 169) (h2 : t ≠ 36) : Bk w' g t cs := by
 refine k.bk hb (fun e => ?_) (fun e => ?_)
 ·subst e
  have h3 := ht.blk
  unfold Bk at h3 hb; rw [hb] at h3; exact h1 (Obj.cells.inj (Option.some.inj h3)).2.1
 rcases ht.row.blk with h3 | ⟨gb, h3, _, _, cs2, hb2⟩
 ·rw [h3] at e; cases e
 rw [h3] at e; cases e
 unfold Bk at hb hb2; rw [hb] at hb2; exact h2 (Obj.cells.inj (Option.some.inj hb2)).2.1
theorem PN.tc9 {w w' : World} {D B : Nat} {rv : Value} {vs : List Vt} {p : Pt} (h : PN w B p) (k : Tc D rv.ownBlock w w') (ht : TB w D rv vs) : PN w' B p := by
 refine ⟨⟨h.1.cap, h.1.nil, fun h0 => ?_⟩, fun a e => ⟨(h.2 a e).1, (h.2 a e).2.elim fun cs hc => ⟨cs, k.kt9 ht hc (by decide) (by decide)⟩⟩⟩
 obtain ⟨a, o, e, hB, hc⟩ := h.1.read h0
 obtain ⟨_, cs, hb⟩ := h.2 _ e
 refine ⟨a, o, e, Nat.lt_of_lt_of_le hB k.size, fun i hi => ?_⟩
 rw [← hc i hi]
 have h2 := k.kt9 ht hb (by decide) (by decide)
 unfold Bk at hb h2
 simp only [World.cell?, h2, hb]
theorem Tc.only9 {w wa wb : World} {D g9 : Nat} {r : Option Nat} (h : Tc D r w wa) (ho : Only g9 wa wb) (hg : w.heap.size ≤ g9) : Tc D r w wb := by
 have t : Tc g9 none wa wb := ho.md.tc
 exact ⟨t.os.trans h.os, t.tape.trans h.tape, t.output.trans h.output, Nat.le_trans h.size t.size, fun k hk h1 h2 => (t.block k (Nat.lt_of_lt_of_le hk h.size) (by omega) (fun e => by cases e)).trans (h.block k hk h1 h2)⟩
theorem Tc.ex9 {w w' wr : World} {D : Nat} {rv : Value} {vs : List Vt} (k : Tc D rv.ownBlock wr w') (ht : TB wr D rv vs) (h : Ex w wr) (lo : w.heap.size ≤ D) : Ex w w' :=
 k.ex h lo (fun g hg => Nat.le_trans lo (Nat.le_of_lt (ht.row.row.lt g hg).1))
/-- what Do of an ideal map answers, and what it makes of the tables -/
def IStep (v : Nat → List Vt) (s : Nat) (q : Qc) (y : Rc) (v' : Nat → List Vt) : Prop :=
 (q.right = false ∧ y = errRc ∧ v' = v) ∨
 (q.right = true ∧ ∃ c b, GetDet (v s) (idn q.id) c b ∧
  (((doC c q).2.2 = false ∧ y = (doC c q).2.1 ∧ v' = v) ∨
   ((doC c q).2.2 = true ∧ b = false ∧ 4 ≤ (v s).length ∧ y = (repRt 13 q.id q.client q.num).ct ∧ v' = v) ∨
   ((doC c q).2.2 = true ∧ (b = true ∨ (v s).length < 4) ∧ y = (doC c q).2.1 ∧ ∃ x ls, x.ct = (doC c q).1 ∧ PutRel (v s) x ls ∧ v' = updF v s ls)))
def IDoPost (B M : Nat) (D : Nat → Nat) (r : Nat → Value) (v : Nat → List Vt) (s : Nat) (q : Qc) (w : World) (e : Ending) (w' : World) : Prop := ∃ (y : Rt) (r' : Nat → Value) (v' : Nat → List Vt), e = .returned y.V ∧ y.Ok ∧ PN w' w.heap.size y.sec ∧ IM w' B M D r' v' ∧ IStep v s q y.ct v' ∧ Tc (D s) (r s).ownBlock w w'
def IDoPost2 (B M : Nat) (D : Nat → Nat) (r : Nat → Value) (v : Nat → List Vt) (s : Nat) (q : Qc) (w : World) (e : Ending) (w' : World) : Prop := ∃ (y : Rt) (r' : Nat → Value) (v' : Nat → List Vt), e = .returned y.V ∧ y.Ok ∧ PN w' w.heap.size y.sec ∧ IM w' B M D r' v' ∧ IStep v s q y.ct v' ∧ Tc (D s) (r s).ownBlock w w' ∧ ∀ i, Lies w (r i) (r' i)
set_option maxHeartbeats 8000000 in
set_option maxRecDepth 100000 in
theorem ido2_any (B M : Nat) (D : Nat → Nat) (r : Nat → Value) (v : Nat → List Vt) (q : Qt) (s : Nat) (hs : Sm.shV q.id = (s : Int)) (hs16 : s < 16) (w : World) (h : IM w B M D r v) (hB : B ≤ M) (hq : QI w q) : Calls Try.prog 39 #[.pointer (some ⟨M, 0, none⟩), q.V] w (IDoPost2 B M D r v s q.ct w) := by
 obtain ⟨ds, hds⟩ : ∃ ds, ds = q.C.toArray := ⟨_, rfl⟩
 have Q0 : Hid (QB ((w.alloc (.cells ds 86)).alloc (.cells zeroRt.C.toArray 83)) w.heap.size q) := Hi ⟨hq.1, by rw [hds]; exact (Bk.new rfl _ _).more _⟩
 have Y0 : Hid (RB ((w.alloc (.cells ds 86)).alloc (.cells zeroRt.C.toArray 83)) (w.heap.size + 1) zeroRt) := Hi ⟨zeroRt_ok, Bk.new (by simp) _ _⟩
 have BW : Hid (Ex w ((w.alloc (.cells ds 86)).alloc (.cells zeroRt.C.toArray 83))) := Hi (Ex.trans (Ex.alloc w _) (Ex.alloc _ _))
 have HQ := Hi hq
 have HIM := Hi (h.ext BW.out)
 have HSH := Hi hs
 rw [show (Calls Try.prog 39 #[.pointer (some ⟨M, 0, none⟩), q.V] w) = (Calls Try.prog 39 #[.pointer (some ⟨M, 0, none⟩), .agg ds] w) by rw [hds]; rfl]
 have q0 : (0 : Int) ≤ (s : Int) := by omega
 have q1 : (s : Int) < 16 := by omega
 obtain ⟨rq, hrq⟩ : ∃ b, b = q.ct.right := ⟨_, rfl⟩
 have HRQ := Hi hrq
 clear hds hq h hs hrq
 go_enter Try.func39, Try.ntmps39
 go_wp2_with ((with_reducible refine so0 ?_ ?_); (focus rfl))
 (with_reducible refine ⟨?_⟩)
 change wpList _ _ _ _ _ ((w.alloc (.cells ds 86)).alloc (.cells zeroRt.C.toArray 83))
 generalize hw1 : ((w.alloc (.cells ds 86)).alloc (.cells zeroRt.C.toArray 83)) = w1 at *
 clear hw1
 obtain ⟨g, hg⟩ : ∃ g, g = w.heap.size := ⟨_, rfl⟩
 have HG := Hi hg
 rw [← hg] at Q0 Y0 ⊢
 clear hg
 go_wp2_with ((with_reducible refine so0 ?_ ?_); (focus rfl))
 refine at9 (by go_simp) fun K0 hK => ld_q _ g q rfl rfl Q0.out (hK _ _ ?_)
 clear hK
 go_wp2_with ((with_reducible refine so0 ?_ ?_); (focus rfl))
 refine (qright_any q _ (HQ.out.ext BW.out)).mono ?_
 rintro e w2 ⟨rfl, x2⟩
 rw [← HRQ.out]
 replace Q0 := Hi (Q0.out.ext x2)
 replace Y0 := Hi (Y0.out.ext x2)
 replace HIM := Hi (HIM.out.ext x2)
 replace BW := Hi (Ex.trans BW.out x2)
 clear x2
 cases rq
 case false =>
  go_wp2_with ((with_reducible refine so0 ?_ ?_); (focus rfl))
  refine at9 (by go_simp) fun K0 hK => wp_build _ _ rfl _ built_err (hK _ _ ?_)
  clear hK
  go_wp2_with ((with_reducible refine so0 ?_ ?_); (focus rfl))
  refine at9 (by go_simp) fun K0 hK => st_r _ _ (g + 1) (repRt 12 z4 0 0) rfl rfl rfl (repRt_ok (by decide) (by decide) rfl (by decide) (by decide) (by decide) (by decide)) Y0.out.2 (by rw [List.size_toArray, Rt.len Y0.out.1]) (fun w9 hd ho => hK _ _ ?_)
  clear hK
  have HD := Hi hd
  have hk9 : Kt [83] 0 w2 w9 := Kt.md ho.md (Nat.zero_le _) Y0.out.2 (List.mem_singleton.2 rfl)
  have HIE := Hi (HIM.out.kts9 hk9)
  have HPE := Hi (show PN w9 w.heap.size (repRt 12 z4 0 0).sec from PN.onlyT (nilB_pn _ _) ho Y0.out.2 (by decide))
  have HBE := Hi (show Tc (D s) (r s).ownBlock w w9 from Tc.only9 (Ex.tc _ _ BW.out) ho (by have := HG.out; omega))
  clear hd ho hk9
  go_wp2_with fail
  exact bodyPost_ret (res_r rfl _ _ (g + 1) rfl (repRt 12 z4 0 0) HD.out) rfl ⟨repRt 12 z4 0 0, r, v, rfl, HD.out.1, HPE.out, HIE.out, Or.inl ⟨HRQ.out.symm, rfl, rfl⟩, HBE.out, fun _ => Or.inl rfl⟩
 go_wp2_with fail
 obtain ⟨T, hT⟩ : ∃ T : List Sx, T = [.is (.pointer (some ⟨M, 0, none⟩)), .is (.pointer (some ⟨g, 1, none⟩)), .is (digV q.id), .is (.int .i64 s), .is (.pointer (some ⟨M, 0, none⟩)), .is (.pointer (some ⟨M, 0, none⟩)), .is (.pointer (some ⟨M, s, none⟩)), .is (.pointer (some ⟨D s, 0, none⟩)), .is (.pointer (some ⟨D s, 0, none⟩))] := ⟨_, rfl⟩
 have HFX : T.map Sx.fixed = [true, true, true, true, true, true, true, true, true] := by rw [hT]; rfl
 have hFst : ∀ wa wb, (fun w9 => Ex w2 w9) wa → Ex wa wb → (fun w9 => Ex w2 w9) wb := fun _ _ h k9 => Ex.trans h k9
 refine wp_region_gen (JE w2 T ([none, none, none, none, none, none, none, none, none] : List (Option Nat)) ([(8, 2), (8, 7)] : List (Nat × Nat)) 8 8 (fun w9 => Ex w2 w9)) (by kernel_rfl) (by kernel_rfl) (by kernel_rfl) (fitB_spec (by kernel_rfl)) (fun listed f h => JE.start listed f h) ?_ ?_
 ·intro i o ho
  have hi : i < 9 := (Array.getElem?_eq_some_iff.1 ho).1
  have hi' : i = 0 ∨ i = 1 ∨ i = 2 ∨ i = 3 ∨ i = 4 ∨ i = 5 ∨ i = 6 ∨ i = 7 ∨ i = 8 := by omega
  clear hi
  rcases hi' with rfl | rfl | rfl | rfl | rfl | rfl | rfl | rfl | rfl
  all_goals (simp only [List.getElem?_toArray, List.getElem?_cons_zero, List.getElem?_cons_succ, Option.some.injEq] at ho; subst ho; intro listed f a w3 hJ hsz hls hun hdep hout hlat; first | (rw [if_pos (by rfl)]; intro K hK) | skip)
  ·have q0 := hout 0 (outB_spec (by kernel_rfl))
   refine wp_mv _ rfl (hK _ _ ?_)
   rw [show a.eval (.tmp 0) = .pointer (some ⟨M, 0, none⟩) from q0]
   exact hJ.plain (by rw [hls]; decide) hFst (by decide) (Ex.refl _) (by rw [hT]; rfl) (no_head (by decide))
  ·have q3 := hout 3 (outB_spec (by kernel_rfl))
   rw [Array.getD_eq_getD_getElem?] at q3
   clear hsz hdep hout hlat
   go_simp
   exact hK _ _ (hJ.plain (by rw [hls]; decide) hFst (by decide) (Ex.refl _) (by rw [hT]; rfl) (no_head (by decide)))
  ·have dd16 := hdep ⟨1, .data⟩ (by simp) rfl
   have q16 := dd16.2 _ rfl _ rfl
   have h16 := hJ.vals 1 dd16.1 no_c
   rw [hT] at h16
   rw [show f 1 = .pointer (some ⟨g, 1, none⟩) from h16] at q16
   clear h16
   clear dd16
   have hcut : listed.getD 8 false = false := by
    cases hc : listed.getD 8 false with
    | false => rfl
    | true =>
     have hc0 := hJ.ord (8, 2) (by simp) hc
     exact absurd hc0 (by rw [hun]; decide)
   have hpre := hJ.pre hcut
   exact ld_qid (.tmp 16) g q rfl q16 (Q0.out.ext hpre) (hK _ _ (hJ.plain (by rw [hls]; decide) hFst (by decide) (Ex.refl _) (by rw [hT]; rfl) (no_head (by decide))))
  ·have dd17 := hdep ⟨2, .data⟩ (by simp) rfl
   have q17 := dd17.2 _ rfl _ rfl
   have h17 := hJ.vals 2 dd17.1 no_c
   rw [hT] at h17
   rw [show f 2 = digV q.id from h17] at q17
   clear h17
   clear dd17
   rw [Array.getD_eq_getD_getElem?] at q17
   clear hsz hdep hout hlat
   go_simp
   refine (iof_any q.id HQ.out.1.idN s HSH.out w3).mono ?_
   rintro e w4 ⟨rfl, x4⟩
   exact hK _ _ (hJ.plain (by rw [hls]; decide) hFst (by decide) x4 (by rw [hT]; rfl) (no_head (by decide)))
  ·have dd15 := hdep ⟨0, .data⟩ (by simp) rfl
   have q15 := dd15.2 _ rfl _ rfl
   have h15 := hJ.vals 0 dd15.1 no_c
   rw [hT] at h15
   rw [show f 0 = .pointer (some ⟨M, 0, none⟩) from h15] at q15
   clear h15
   clear dd15
   rw [Array.getD_eq_getD_getElem?] at q15
   clear hsz hdep hout hlat
   go_simp
   exact hK _ _ (hJ.plain (by rw [hls]; decide) hFst (by decide) (Ex.refl _) (by rw [hT]; rfl) (no_head (by decide)))
  ·have dd19 := hdep ⟨4, .data⟩ (by simp) rfl
   have q19 := dd19.2 _ rfl _ rfl
   have h19 := hJ.vals 4 dd19.1 no_c
   rw [hT] at h19
   rw [show f 4 = .pointer (some ⟨M, 0, none⟩) from h19] at q19
   clear h19
   clear dd19
   rw [Array.getD_eq_getD_getElem?] at q19
   clear hsz hdep hout hlat
   go_simp
   exact hK _ _ (hJ.plain (by rw [hls]; decide) hFst (by decide) (Ex.refl _) (by rw [hT]; rfl) (no_head (by decide)))
  ·have dd20 := hdep ⟨5, .data⟩ (by simp) rfl
   have q20 := dd20.2 _ rfl _ rfl
   have h20 := hJ.vals 5 dd20.1 no_c
   rw [hT] at h20
   rw [show f 5 = .pointer (some ⟨M, 0, none⟩) from h20] at q20
   clear h20
   clear dd20
   have dd18 := hdep ⟨3, .data⟩ (by simp) rfl
   have q18 := dd18.2 _ rfl _ rfl
   have h18 := hJ.vals 3 dd18.1 no_c
   rw [hT] at h18
   rw [show f 3 = .int .i64 s from h18] at q18
   clear h18
   clear dd18
   rw [Array.getD_eq_getD_getElem?] at q20 q18
   clear hsz hdep hout hlat
   go_simp
   exact hK _ _ (hJ.plain (by rw [hls]; decide) hFst (by decide) (Ex.refl _) (by rw [hT]; rfl) (no_head (by decide)))
  ·have dd21 := hdep ⟨6, .data⟩ (by simp) rfl
   have q21 := dd21.2 _ rfl _ rfl
   have h21 := hJ.vals 6 dd21.1 no_c
   rw [hT] at h21
   rw [show f 6 = .pointer (some ⟨M, s, none⟩) from h21] at q21
   clear h21
   clear dd21
   have hcut : listed.getD 8 false = false := by
    cases hc : listed.getD 8 false with
    | false => rfl
    | true =>
     have hc0 := hJ.ord (8, 7) (by simp) hc
     exact absurd hc0 (by rw [hun]; decide)
   have hpre := hJ.pre hcut
   have c6 : w3.cell? ⟨M, s, none⟩ = some (.pointer (some ⟨D s, 0, none⟩)) := by rw [(HIM.out.blk.ext hpre).cell, List.getElem?_toArray]; exact ptrs_at 16 D s hs16 hs16
   rw [Array.getD_eq_getD_getElem?] at q21
   clear hsz hdep hout hlat
   go_simp
   exact hK _ _ (hJ.plain (by rw [hls]; decide) hFst (by decide) (Ex.refl _) (by rw [hT]; rfl) (no_head (by decide)))
  have dd22 := hdep ⟨7, .data⟩ (by simp) rfl
  have q22 := dd22.2 _ rfl _ rfl
  have h22 := hJ.vals 7 dd22.1 no_c
  rw [hT] at h22
  rw [show f 7 = .pointer (some ⟨D s, 0, none⟩) from h22] at q22
  clear h22
  clear dd22
  have hl2 := (hdep ⟨2, .phase⟩ (by simp) rfl).1
  have hl7 := (hdep ⟨7, .data⟩ (by simp) rfl).1
  have hord : ∀ x ∈ ([(8, 2), (8, 7)] : List (Nat × Nat)), x.1 = 8 → listed.getD x.2 false = true := (by intro x hx he; simp only [List.mem_cons, List.not_mem_nil, or_false] at hx; rcases hx with rfl | rfl; all_goals first | (exact absurd he (by decide)) | assumption)
  have hcut := hun
  have hpre := hJ.pre hcut
  have hc1 : ∀ j, j ≠ 8 → ([true, true, true, true, true, true, true, true, true] : List Bool).getD j true = false → listed.getD j false = true → ∃ c, (([none, none, none, none, none, none, none, none, none] : List (Option Nat))).getD j none = some c ∧ (c = 8 ∨ listed.getD c false = true) := by
   intro j hj hfj hl
   have hm : False := by
    rcases Nat.lt_or_ge j 9 with h | h
    ·have hk : j = 0 ∨ j = 1 ∨ j = 2 ∨ j = 3 ∨ j = 4 ∨ j = 5 ∨ j = 6 ∨ j = 7 ∨ j = 8 := by omega
     rcases hk with rfl | rfl | rfl | rfl | rfl | rfl | rfl | rfl | rfl <;> first | (exact absurd hfj (by decide)) | simp
    ·rw [List.getD_eq_getElem?_getD, List.getElem?_eq_none (by simpa using h)] at hfj; cases hfj
   rcases hm with ⟨⟩
  rw [Array.getD_eq_getD_getElem?] at q22
  have HHD := Hi @hdep
  have HC1 := Hi hc1
  clear hsz hdep hout hlat hc1
  go_simp
  have hc1 := HC1.out
  exact hK _ _ (hJ.mod (by rw [hls]; decide) HFX (by rw [hT]; rfl) hc1 (Or.inl rfl) (fun _ => hpre) hord)
 intro listed f w3 hall hJ
 have f8 : f 8 = .pointer (some ⟨D s, 0, none⟩) := by
  have h := hJ.vals 8 (hall 8 (by simp)) no_c
  rw [hT] at h; exact h
 have xf : (fun w9 => Ex w2 w9) w3 := hJ.fin (hall 8 (by simp))
 simp only [putAll, Act.put, List.setIfInBounds_toArray, List.set_cons_zero, List.set_cons_succ, Nat.zero_add, Nat.reduceAdd]
 rw [f8]
 clear f8
 clear hJ hall hT HFX hFst
 replace Q0 := Hi (Q0.out.ext xf)
 replace Y0 := Hi (Y0.out.ext xf)
 replace HIM := Hi (HIM.out.ext xf)
 replace BW := Hi (Ex.trans BW.out xf)
 clear xf
 go_wp2_with ((with_reducible refine so0 ?_ ?_); (focus rfl))
 obtain ⟨c, b, hdet⟩ := get_det (v s) (idn q.id)
 have HDT := Hi hdet
 clear hdet
 refine at9 (by go_simp) fun K0 hK => ld_qid _ g q rfl rfl Q0.out (hK _ _ ?_)
 clear hK
 go_wp2_with ((with_reducible refine so0 ?_ ?_); (focus rfl))
 refine (tget_det q.id HQ.out.1.idN HDT.out _ (HIM.out.ts.tb s hs16)).mono ?_
 rintro e w4 ⟨x, rfl, h1, h2, x4⟩
 have HXC := Hi h1
 have HX := Hi h2
 clear h1 h2
 replace Q0 := Hi (Q0.out.ext x4)
 replace Y0 := Hi (Y0.out.ext x4)
 replace HIM := Hi (HIM.out.ext x4)
 replace BW := Hi (Ex.trans BW.out x4)
 clear x4
 go_wp2_with ((with_reducible refine so0 ?_ ?_); (focus rfl))
 refine at9 (by go_simp) fun K0 hK => st_v _ _ w4.heap.size x rfl rfl rfl HX.out.ok (Bk.new rfl _ _) (by rfl) (fun w5 hd ho => hK _ _ ?_)
 clear hK
 have x5 : Ex w4 w5 := ho.below w4.heap.size (Nat.le_refl _) w4 (Ex.alloc w4 _)
 have VX := Hi hd
 replace HX := Hi (HX.out.ext x5)
 obtain ⟨h, hh⟩ : ∃ h, h = w4.heap.size := ⟨_, rfl⟩
 rw [← hh] at VX ⊢
 clear hd ho hh
 replace Q0 := Hi (Q0.out.ext x5)
 replace Y0 := Hi (Y0.out.ext x5)
 replace HIM := Hi (HIM.out.ext x5)
 replace BW := Hi (Ex.trans BW.out x5)
 clear x5
 go_wp2_with ((with_reducible refine so0 ?_ ?_); (focus rfl))
 refine at9 (by go_simp) fun K0 hK => ld_v _ h x rfl rfl VX.out (hK _ _ ?_)
 clear hK
 go_wp2_with ((with_reducible refine so0 ?_ ?_); (focus rfl))
 refine at9 (by go_simp) fun K0 hK => ld_q _ g q rfl rfl Q0.out (hK _ _ ?_)
 clear hK
 go_wp2_with ((with_reducible refine so0 ?_ ?_); (focus rfl))
 refine (do_any x q _ HX.out.vi (HQ.out.ext BW.out)).mono ?_
 rintro e w6 ⟨x2, y2, b2, rfl, hz, h1, h2, h3, x6⟩
 rw [HXC.out] at hz
 have HZ := Hi hz
 have HX2 := Hi h1
 have HY2 := Hi h2
 have HS2 := Hi (h3.less (Below.size BW.out))
 clear hz h1 h2 h3 HX VX
 replace Q0 := Hi (Q0.out.ext x6)
 replace Y0 := Hi (Y0.out.ext x6)
 replace HIM := Hi (HIM.out.ext x6)
 replace BW := Hi (Ex.trans BW.out x6)
 clear x6
 go_wp2_with ((with_reducible refine so0 ?_ ?_); (focus rfl))
 (with_reducible refine ⟨?_⟩)
 change wpList _ _ _ _ _ ((w6.alloc (.cells zeroVt.C.toArray 36)).alloc (.cells zeroRt.C.toArray 83))
 have X6 : Hid (Ex w6 ((w6.alloc (.cells zeroVt.C.toArray 36)).alloc (.cells zeroRt.C.toArray 83))) := Hi (Ex.trans (Ex.alloc w6 _) (Ex.alloc _ _))
 have A8 : Hid (VB ((w6.alloc (.cells zeroVt.C.toArray 36)).alloc (.cells zeroRt.C.toArray 83)) w6.heap.size zeroVt) := Hi ⟨zeroVt_ok, (Bk.new rfl _ _).more _⟩
 have A9 : Hid (RB ((w6.alloc (.cells zeroVt.C.toArray 36)).alloc (.cells zeroRt.C.toArray 83)) (w6.heap.size + 1) zeroRt) := Hi ⟨zeroRt_ok, Bk.new (by simp) _ _⟩
 generalize hw7 : ((w6.alloc (.cells zeroVt.C.toArray 36)).alloc (.cells zeroRt.C.toArray 83)) = w7 at *
 clear hw7
 obtain ⟨h8, hh⟩ : ∃ h, h = w6.heap.size := ⟨_, rfl⟩
 have HH := Hi hh
 rw [← hh] at A8 A9 ⊢
 clear hh
 go_wp2_with ((with_reducible refine so0 ?_ ?_); (focus rfl))
 refine at9 (by go_simp) fun K0 hK => st_v _ _ h8 x2 rfl rfl rfl HX2.out.1 A8.out.2 (by rw [List.size_toArray, Vt.len zeroVt_ok]) (fun w8 hd ho => hK _ _ ?_)
 clear hK
 replace X6 := Hi (ho.below w6.heap.size (Nat.le_of_eq HH.out.symm) w6 X6.out)
 replace A9 := Hi (ho.rb A9.out (by omega))
 replace A8 := Hi hd
 clear hd ho
 go_wp2_with ((with_reducible refine so0 ?_ ?_); (focus rfl))
 refine at9 (by go_simp) fun K0 hK => st_r _ _ (h8 + 1) y2 rfl rfl rfl HY2.out A9.out.2 (by rw [List.size_toArray, Rt.len zeroRt_ok]) (fun w9 hd ho => hK _ _ ?_)
 clear hK
 replace X6 := Hi (ho.below w6.heap.size (by have := HH.out; omega) w6 X6.out)
 replace A8 := Hi (ho.vb A8.out (by omega))
 replace A9 := Hi hd
 clear hd ho
 have x9 := X6.out
 replace HX2 := Hi (HX2.out.ext x9)
 replace HS2 := Hi (HS2.out.ext x9)
 clear X6 HH
 replace Q0 := Hi (Q0.out.ext x9)
 replace Y0 := Hi (Y0.out.ext x9)
 replace HIM := Hi (HIM.out.ext x9)
 replace BW := Hi (Ex.trans BW.out x9)
 clear x9
 cases b2
 case false =>
  go_wp2_with ((with_reducible refine so0 ?_ ?_); (focus rfl))
  refine at9 (by go_simp) fun K0 hK => ld_r _ (h8 + 1) y2 rfl rfl A9.out (hK _ _ ?_)
  clear hK
  go_wp2_with ((with_reducible refine so0 ?_ ?_); (focus rfl))
  refine at9 (by go_simp) fun K0 hK => st_r _ _ (g + 1) (y2) rfl rfl rfl HY2.out Y0.out.2 (by rw [List.size_toArray, Rt.len Y0.out.1]) (fun wz hd ho => hK _ _ ?_)
  clear hK
  have HD := Hi hd
  have hk9 : Kt [83] 0 w9 wz := Kt.md ho.md (Nat.zero_le _) Y0.out.2 (List.mem_singleton.2 rfl)
  have HIE := Hi (HIM.out.kts9 hk9)
  have HPE := Hi (show PN wz w.heap.size (y2).sec from PN.onlyT (HS2.out) ho Y0.out.2 (by decide))
  have HBE := Hi (show Tc (D s) (r s).ownBlock w wz from Tc.only9 (Ex.tc _ _ BW.out) ho (by have := HG.out; omega))
  clear hd ho hk9
  go_wp2_with fail
  exact bodyPost_ret (res_r rfl _ _ (g + 1) rfl (y2) HD.out) rfl ⟨y2, r, v, rfl, HD.out.1, HPE.out, HIE.out, Or.inr ⟨HRQ.out.symm, c, b, HDT.out, Or.inl ⟨by rw [← HZ.out], by rw [← HZ.out], rfl⟩⟩, HBE.out, fun _ => Or.inl rfl⟩
 obtain ⟨n, hn⟩ : ∃ n, n = (v s).length := ⟨_, rfl⟩
 have HN := Hi hn
 clear hn
 cases b
 case true =>
  go_wp2_with ((with_reducible refine so0 ?_ ?_); (focus rfl))
  refine at9 (by go_simp) fun K0 hK => ld_v _ h8 x2 rfl rfl A8.out (hK _ _ ?_)
  clear hK
  go_wp2_with ((with_reducible refine so0 ?_ ?_); (focus rfl))
  refine (tput_any (D s) (r s) (v s) x2 w9 (HIM.out.ts.tb s hs16) HX2.out.vi).mono ?_
  rintro e wp hp
  obtain ⟨n9, r9, ls, rfl, p1, p2, p3, p4⟩ := put_im HIM.out hs16 hp
  have hsz9 := BW.out.sz
  have HLI : Hid (∀ i, Lies w (r i) (updF r s r9 i)) := Hi (fun i => by
   by_cases e : i = s
   ·subst e; rw [updF_same]; exact p4.imp id (fun h g hg => Nat.le_trans hsz9 (h g hg))
   ·rw [updF_ne _ _ e]; exact Or.inl rfl)
  have ht9 := HIM.out.ts.tb s hs16
  have hlo := HIM.out.ts.lo s hs16
  have HBW := Hi (show Tc (D s) (r s).ownBlock w wp from (Ex.tc _ _ BW.out).trans p3 (Or.inl rfl))
  replace A9 := Hi (show RB wp (h8 + 1) y2 from ⟨HY2.out, p3.kt9 ht9 A9.out.2 (by decide) (by decide)⟩)
  replace Y0 := Hi (show RB wp (g + 1) zeroRt from ⟨zeroRt_ok, p3.kt9 ht9 Y0.out.2 (by decide) (by decide)⟩)
  replace HS2 := Hi (HS2.out.tc9 p3 ht9)
  replace HIM := Hi p2
  have HPR := Hi p1
  clear hp p1 p2 p3 p4 hsz9 ht9 hlo HX2 A8
  go_wp2_with ((with_reducible refine so0 ?_ ?_); (focus rfl))
  refine at9 (by go_simp) fun K0 hK => ld_r _ (h8 + 1) y2 rfl rfl A9.out (hK _ _ ?_)
  clear hK
  go_wp2_with ((with_reducible refine so0 ?_ ?_); (focus rfl))
  refine at9 (by go_simp) fun K0 hK => st_r _ _ (g + 1) (y2) rfl rfl rfl HY2.out Y0.out.2 (by rw [List.size_toArray, Rt.len Y0.out.1]) (fun wz hd ho => hK _ _ ?_)
  clear hK
  have HD := Hi hd
  have hk9 : Kt [83] 0 wp wz := Kt.md ho.md (Nat.zero_le _) Y0.out.2 (List.mem_singleton.2 rfl)
  have HIE := Hi (HIM.out.kts9 hk9)
  have HPE := Hi (show PN wz w.heap.size (y2).sec from PN.onlyT (HS2.out) ho Y0.out.2 (by decide))
  have HBE := Hi (show Tc (D s) (r s).ownBlock w wz from Tc.only9 (HBW.out) ho (by have := HG.out; omega))
  clear hd ho hk9
  go_wp2_with fail
  exact bodyPost_ret (res_r rfl _ _ (g + 1) rfl (y2) HD.out) rfl ⟨y2, _, _, rfl, HD.out.1, HPE.out, HIE.out, Or.inr ⟨HRQ.out.symm, c, _, HDT.out, Or.inr (Or.inr ⟨by rw [← HZ.out], Or.inl rfl, by rw [← HZ.out], x2, ls, by rw [← HZ.out], HPR.out, rfl⟩)⟩, HBE.out, HLI.out⟩
 go_wp2_with ((with_reducible refine so0 ?_ ?_); (focus rfl))
 refine (tlen_any (D s) (r s) (v s) w9 (HIM.out.ts.tb s hs16)).mono ?_
 rintro e w10 ⟨rfl, rfl⟩
 rw [← HN.out]
 by_cases hf : 4 ≤ n
 ·have q2 : (4 : Int) ≤ (n : Int) := by omega
  go_wp2_with ((with_reducible refine so0 ?_ ?_); (focus rfl))
  refine at9 (by go_simp) fun K0 hK => ld_qid _ g q rfl rfl Q0.out (hK _ _ ?_)
  clear hK
  obtain ⟨e0, e21, e22, e55, e56⟩ := Q0.out.cells
  go_wp2_with ((with_reducible refine so0 ?_ ?_); (focus rfl))
  refine at9 (by go_simp) fun K0 hK => wp_build _ _ rfl _ (built_full q.id q.client q.num HQ.out.1.idN) (hK _ _ ?_)
  clear hK
  go_wp2_with ((with_reducible refine so0 ?_ ?_); (focus rfl))
  have hqk := HQ.out.1
  refine at9 (by go_simp) fun K0 hK => st_r _ _ (g + 1) (repRt 13 q.id q.client q.num) rfl rfl rfl (repRt_ok (by decide) (by decide) hqk.idN (by first | exact hqk.client0 | exact hqk.cl0) (by first | exact hqk.client1 | exact hqk.cl1) (by exact hqk.num0) (by exact hqk.num1)) Y0.out.2 (by rw [List.size_toArray, Rt.len Y0.out.1]) (fun wz hd ho => hK _ _ ?_)
  clear hK
  have HD := Hi hd
  have hk9 : Kt [83] 0 w9 wz := Kt.md ho.md (Nat.zero_le _) Y0.out.2 (List.mem_singleton.2 rfl)
  have HIE := Hi (HIM.out.kts9 hk9)
  have HPE := Hi (show PN wz w.heap.size (repRt 13 q.id q.client q.num).sec from PN.onlyT (nilB_pn _ _) ho Y0.out.2 (by decide))
  have HBE := Hi (show Tc (D s) (r s).ownBlock w wz from Tc.only9 (Ex.tc _ _ BW.out) ho (by have := HG.out; omega))
  clear hd ho hk9
  go_wp2_with fail
  exact bodyPost_ret (res_r rfl _ _ (g + 1) rfl (repRt 13 q.id q.client q.num) HD.out) rfl ⟨repRt 13 q.id q.client q.num, r, v, rfl, HD.out.1, HPE.out, HIE.out, Or.inr ⟨HRQ.out.symm, c, false, HDT.out, Or.inr (Or.inl ⟨by rw [← HZ.out], rfl, by rw [← HN.out]; exact hf, rfl, rfl⟩)⟩, HBE.out, fun _ => Or.inl rfl⟩
 have q2 : ¬ (4 : Int) ≤ (n : Int) := by omega
 have q3 : (n : Int) < 4 := by omega
 go_wp2_with ((with_reducible refine so0 ?_ ?_); (focus rfl))
 refine at9 (by go_simp) fun K0 hK => ld_v _ h8 x2 rfl rfl A8.out (hK _ _ ?_)
 clear hK
 go_wp2_with ((with_reducible refine so0 ?_ ?_); (focus rfl))
 refine (tput_any (D s) (r s) (v s) x2 w9 (HIM.out.ts.tb s hs16) HX2.out.vi).mono ?_
 rintro e wp hp
 obtain ⟨n9, r9, ls, rfl, p1, p2, p3, p4⟩ := put_im HIM.out hs16 hp
 have hsz9 := BW.out.sz
 have HLI : Hid (∀ i, Lies w (r i) (updF r s r9 i)) := Hi (fun i => by
  by_cases e : i = s
  ·subst e; rw [updF_same]; exact p4.imp id (fun h g hg => Nat.le_trans hsz9 (h g hg))
  ·rw [updF_ne _ _ e]; exact Or.inl rfl)
 have ht9 := HIM.out.ts.tb s hs16
 have hlo := HIM.out.ts.lo s hs16
 have HBW := Hi (show Tc (D s) (r s).ownBlock w wp from (Ex.tc _ _ BW.out).trans p3 (Or.inl rfl))
 replace A9 := Hi (show RB wp (h8 + 1) y2 from ⟨HY2.out, p3.kt9 ht9 A9.out.2 (by decide) (by decide)⟩)
 replace Y0 := Hi (show RB wp (g + 1) zeroRt from ⟨zeroRt_ok, p3.kt9 ht9 Y0.out.2 (by decide) (by decide)⟩)
 replace HS2 := Hi (HS2.out.tc9 p3 ht9)
 replace HIM := Hi p2
 have HPR := Hi p1
 clear hp p1 p2 p3 p4 hsz9 ht9 hlo HX2 A8
 go_wp2_with ((with_reducible refine so0 ?_ ?_); (focus rfl))
 refine at9 (by go_simp) fun K0 hK => ld_r _ (h8 + 1) y2 rfl rfl A9.out (hK _ _ ?_)
 clear hK
 go_wp2_with ((with_reducible refine so0 ?_ ?_); (focus rfl))
 refine at9 (by go_simp) fun K0 hK => st_r _ _ (g + 1) (y2) rfl rfl rfl HY2.out Y0.out.2 (by rw [List.size_toArray, Rt.len Y0.out.1]) (fun wz hd ho => hK _ _ ?_)
 clear hK
 have HD := Hi hd
 have hk9 : Kt [83] 0 wp wz := Kt.md ho.md (Nat.zero_le _) Y0.out.2 (List.mem_singleton.2 rfl)
 have HIE := Hi (HIM.out.kts9 hk9)
 have HPE := Hi (show PN wz w.heap.size (y2).sec from PN.onlyT (HS2.out) ho Y0.out.2 (by decide))
 have HBE := Hi (show Tc (D s) (r s).ownBlock w wz from Tc.only9 (HBW.out) ho (by have := HG.out; omega))
 clear hd ho hk9
 go_wp2_with fail
 exact bodyPost_ret (res_r rfl _ _ (g + 1) rfl (y2) HD.out) rfl ⟨y2, _, _, rfl, HD.out.1, HPE.out, HIE.out, Or.inr ⟨HRQ.out.symm, c, _, HDT.out, Or.inr (Or.inr ⟨by rw [← HZ.out], Or.inr (by rw [← HN.out]; omega), by rw [← HZ.out], x2, ls, by rw [← HZ.out], HPR.out, rfl⟩)⟩, HBE.out, HLI.out⟩
theorem ido_any (B M : Nat) (D : Nat → Nat) (r : Nat → Value) (v : Nat → List Vt) (q : Qt) (s : Nat) (hs : Sm.shV q.id = (s : Int)) (hs16 : s < 16) (w : World) (h : IM w B M D r v) (hB : B ≤ M) (hq : QI w q) : Calls Try.prog 39 #[.pointer (some ⟨M, 0, none⟩), q.V] w (IDoPost B M D r v s q.ct w) :=
 (ido2_any B M D r v q s hs hs16 w h hB hq).mono fun e w' ⟨y, r', v', h1, h2, h3, h4, h5, h6, _⟩ => ⟨y, r', v', h1, h2, h3, h4, h5, h6⟩
end Go.Proofs.Ytmjfnpmnhehnkaa
namespace Go.Proofs.Ytmjfnpmnhehnkaa
open Go.RowKit
def RightV (v : Nat → List Vt) : Prop := ∀ i, i < 16 → ∀ (j : Nat) (x : Vt), (v i)[j]? = some x → x.ct.right = true
theorem RightV.none {v : Nat → List Vt} (h : ∀ i, i < 16 → v i = []) : RightV v := fun i hi j x hx => by rw [h i hi] at hx; simp at hx
theorem RightV.ct {v v2 : Nat → List Vt} (h : ∀ i, i < 16 → (v2 i).map Vt.ct = (v i).map Vt.ct) (hr : RightV v) : RightV v2 := fun i hi j x hx => by
 have e : ((v2 i).map Vt.ct)[j]? = ((v i).map Vt.ct)[j]? := by rw [h i hi]
 rw [List.getElem?_map, List.getElem?_map, hx] at e
 cases hy : (v i)[j]? with
 | none => rw [hy] at e; cases e
 | some y =>
  rw [hy] at e
  have e : x.ct = y.ct := by simpa using e
  rw [e]; exact hr i hi j y hy
theorem PutRel.right {vs ls : List Vt} {x : Vt} (h : PutRel vs x ls) (hv : ∀ (j : Nat) (y : Vt), vs[j]? = some y → y.ct.right = true) (j : Nat) (y : Vt) (hy : ls[j]? = some y) : y.ct.right = true := by
 have mem : ∀ y ∈ vs, y.ct.right = true := fun y hm => by
  obtain ⟨i, hi, e⟩ := List.getElem_of_mem hm
  exact hv i y (by rw [List.getElem?_eq_getElem hi, e])
 rcases h with ⟨_, rfl⟩ | ⟨hx, p, z, _, hz, ⟨_, _, rfl⟩ | ⟨_, _, rfl⟩ | ⟨_, _, rfl⟩⟩
 ·exact hv j y hy
 ·rcases List.mem_or_eq_of_mem_set (List.mem_of_getElem? hy) with hm | rfl
  ·exact mem y hm
  rw [hz]; exact hx
 ·exact hv j y hy
 rcases List.mem_append.1 (List.mem_of_getElem? hy) with hm | hm
 ·exact mem y (List.mem_of_mem_take hm)
 rcases List.mem_cons.1 hm with rfl | hm
 ·rw [hz]; exact hx
 exact mem y (List.mem_of_mem_drop hm)
theorem IStep.right {v v' : Nat → List Vt} {s : Nat} {q : Qc} {y : Rc} (h : IStep v s q y v') (hs : s < 16) (hr : RightV v) : RightV v' := by
 rcases h with ⟨_, _, rfl⟩ | ⟨_, c, b, _, ⟨_, _, rfl⟩ | ⟨_, _, _, _, rfl⟩ | ⟨_, _, _, x, ls, _, hp, rfl⟩⟩
 ·exact hr
 ·exact hr
 ·exact hr
 intro i hi j y hy
 by_cases e : i = s
 ·subst e; rw [updF_same] at hy; exact hp.right (hr i hi) j y hy
 rw [updF_ne _ _ e] at hy; exact hr i hi j y hy
/-- two ideal maps with no block in common -/
structure Apart (D : Nat → Nat) (r : Nat → Value) (D2 : Nat → Nat) (r2 : Nat → Value) : Prop where
 dd : ∀ i j, i < 16 → j < 16 → D i ≠ D2 j
 rr : ∀ i j, i < 16 → j < 16 → Djn (r i) (r2 j)
/-- a map that is not the one turned stays -/
theorem IM.other {w w' : World} {B M B2 M2 s : Nat} {D D2 : Nat → Nat} {r r2 : Nat → Value} {v v2 : Nat → List Vt} (h : IM w B M D r v) (h2 : IM w B2 M2 D2 r2 v2) (hs : s < 16) (k : Tc (D s) (r s).ownBlock w w') (ha : Apart D r D2 r2) : IM w' B2 M2 D2 r2 v2 :=
 ⟨k.kt9 (h.ts.tb s hs) h2.blk (by decide) (by decide), ⟨fun i hi => (h2.ts.tb i hi).other (h.ts.tb s hs) k (fun e => ha.dd s i hs hi e.symm) (ha.rr s i hs hi).symm, h2.ts.lo, h2.ts.dd, h2.ts.rr⟩⟩
/-- a map made later is apart from one that was there -/
theorem IM.apart {w w' : World} {B M B2 M2 : Nat} {D D2 : Nat → Nat} {r r2 : Nat → Value} {v v2 : Nat → List Vt} (h : IM w B M D r v) (h2 : IM w' B2 M2 D2 r2 v2) (hB : w.heap.size ≤ B2) : Apart D r D2 r2 := by
 refine ⟨fun i j hi hj e => ?_, fun i j hi hj g hg hg2 => ?_⟩
 ·have h3 := (h.ts.tb i hi).blk.lt
  have h4 := h2.ts.lo j hj
  omega
 have h3 := ((h.ts.tb i hi).row.row.lt g hg).2
 have h4 := ((h2.ts.tb j hj).row.row.lt g hg2).1
 have h5 := h2.ts.lo j hj
 omega
end Go.Proofs.Ytmjfnpmnhehnkaa
namespace Go.Proofs.Ytmjfnpmnhehnkaa
open Go.RowKit
structure JS (T : List (Value → Prop)) (prs : List (Nat × Nat)) (St : Array Bool → (Nat → Value) → World → Prop) (listed : Array Bool) (f : Nat → Value) (w : World) : Prop where
 vals : ∀ i, listed.getD i false = true → (T.getD i (fun _ => True)) (f i)
 st : St listed f w
 ord : ∀ x ∈ prs, listed.getD x.1 false = true → listed.getD x.2 false = true
section
variable {T : List (Value → Prop)} {prs : List (Nat × Nat)} {St : Array Bool → (Nat → Value) → World → Prop}
theorem JS.start {w : World} (listed : Array Bool) (f : Nat → Value) (h0 : ∀ i, listed.getD i false = false) (hs : St listed f w) : JS T prs St listed f w :=
 ⟨fun i hi => absurd hi (by rw [h0 i]; decide), hs, fun x _ hx => absurd hx (by rw [h0 x.1]; decide)⟩
theorem JS.next {listed : Array Bool} {f : Nat → Value} {w w' : World} (h : JS T prs St listed f w) {i : Nat} (hi : i < listed.size) {v : Value} (hv : (T.getD i (fun _ => True)) v) (hs : St (listed.setIfInBounds i true) (upd f i v) w') (ho : ∀ x ∈ prs, x.1 = i → listed.getD x.2 false = true) :
  JS T prs St (listed.setIfInBounds i true) (upd f i v) w' := by
 have mono : ∀ c, listed.getD c false = true → (listed.setIfInBounds i true).getD c false = true := fun c hc => by
  by_cases e : i = c
  ·subst e; exact set_new hi
  ·rw [gset e false]; exact hc
 refine ⟨fun j hj => ?_, hs, fun x hx h1 => ?_⟩
 ·by_cases e : j = i
  ·subst e; rw [upd_same]; exact hv
  ·rw [upd_ne _ _ e]
   refine h.vals j ?_
   rcases listed_set hj with rfl | hj
   ·exact absurd rfl e
   ·exact hj
 ·rcases listed_set h1 with e | h1
  ·exact mono _ (ho x hx e)
  ·exact mono _ (h.ord x hx h1)
theorem JS.nx {listed : Array Bool} {f : Nat → Value} {w w' : World} {N : Nat} {TT : List (Value → Prop)} (h : JS T prs St listed f w) (hls : listed.size = N) (hT : T = TT) {i : Nat} (hi : decide (i < N) = true) {v : Value} (hv : (TT.getD i (fun _ => True)) v) (hs : St (listed.setIfInBounds i true) (upd f i v) w') (ho : ∀ x ∈ prs, x.1 = i → listed.getD x.2 false = true) :
  JS T prs St (listed.setIfInBounds i true) (upd f i v) w' := h.next (by rw [hls]; exact of_decide_eq_true hi) (by rw [hT]; exact hv) hs ho
/-- what a temporary is, by the value that is known of its operation -/
theorem JS.is {TT : List (Value → Prop)} {listed : Array Bool} {f : Nat → Value} {w : World} (h : JS T prs St listed f w) (hT : T = TT) {j : Nat} {ops : Array Oper} {tm : Array Value} (hd : listed.getD j false = true ∧ ∀ oj, ops[j]? = some oj → ∀ t, oj.dst = some t → tm.getD t undef = f j) {V : Value} (hV : TT.getD j (fun _ => True) = fun zz => zz = V) (oj : Oper) (ho : ops[j]? = some oj) (t : Tmp) (ht : oj.dst = some t) : tm.getD t undef = V := by
 have h1 := h.vals j hd.1
 rw [hT, hV] at h1
 rw [hd.2 oj ho t ht]; exact h1
theorem JS.iq {TT : List (Value → Prop)} {listed : Array Bool} {f : Nat → Value} {w : World} (h : JS T prs St listed f w) (hT : T = TT) {j : Nat} {ops : Array Oper} {tm : Array Value} (hd : listed.getD j false = true ∧ ∀ oj, ops[j]? = some oj → ∀ t, oj.dst = some t → tm.getD t undef = f j) {V : Value} (hV : TT.getD j (fun _ => True) = fun zz => zz = V) (oj : Oper) (ho : ops[j]? = some oj) (t : Tmp) (ht : oj.dst = some t) : tm[t]?.getD undef = V := by
 rw [← Array.getD_eq_getD_getElem?]; exact h.is hT hd hV oj ho t ht
/-- what is listed at the end -/
theorem JS.last {listed : Array Bool} {f : Nat → Value} {w : World} (h : JS T prs St listed f w) {i : Nat} (hi : listed.getD i false = true) : (T.getD i (fun _ => True)) (f i) := h.vals i hi
end
def k3q (g : Nat) : Qt := ⟨1, [1, 0, 0, 0], z16, ⟨some ⟨g, 0, none⟩, 1, [115]⟩, 2, z16, z16, 0, 0⟩
def k3r : Qt := ⟨2, [2, 0, 0, 0], z16, nilB, 0, z16, z16, 0, 0⟩
def k3z : Vc := (doC zeroVc (k3q 0).ct).1
end Go.Proofs.Ytmjfnpmnhehnkaa
