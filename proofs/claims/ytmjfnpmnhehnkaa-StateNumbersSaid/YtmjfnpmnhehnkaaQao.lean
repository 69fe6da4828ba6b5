/- SoA, Ud, Ue, Vg, Vh, Vi, Uf, Ug, Uh, Vz, FlC, FlE, Vy -/
import Derived.Test.YtmjfnpmnhehnkaaQan
set_option maxRecDepth 100000
set_option maxHeartbeats 16000000
namespace Go.Proofs.Ytmjfnpmnhehnkaa.Sm
open Go.RowKit
theorem cons_of (n : Nat) (l : List UInt8) (h : l.length = n + 1) : ∃ x m, l = x :: m ∧ m.length = n := by
 cases l with
 | nil => cases h
 | cons x m => exact ⟨x, m, rfl, by simpa using h⟩
theorem len16 (l : List UInt8) (h : l.length = 16) : ∃ x0 x1 x2 x3 x4 x5 x6 x7 x8 x9 x10 x11 x12 x13 x14 x15 : UInt8, l = [x0, x1, x2, x3, x4, x5, x6, x7, x8, x9, x10, x11, x12, x13, x14, x15] := by
 obtain ⟨x0, l0, rfl, h0⟩ := cons_of 15 l h
 obtain ⟨x1, l1, rfl, h1⟩ := cons_of 14 l0 h0
 obtain ⟨x2, l2, rfl, h2⟩ := cons_of 13 l1 h1
 obtain ⟨x3, l3, rfl, h3⟩ := cons_of 12 l2 h2
 obtain ⟨x4, l4, rfl, h4⟩ := cons_of 11 l3 h3
 obtain ⟨x5, l5, rfl, h5⟩ := cons_of 10 l4 h4
 obtain ⟨x6, l6, rfl, h6⟩ := cons_of 9 l5 h5
 obtain ⟨x7, l7, rfl, h7⟩ := cons_of 8 l6 h6
 obtain ⟨x8, l8, rfl, h8⟩ := cons_of 7 l7 h7
 obtain ⟨x9, l9, rfl, h9⟩ := cons_of 6 l8 h8
 obtain ⟨x10, l10, rfl, h10⟩ := cons_of 5 l9 h9
 obtain ⟨x11, l11, rfl, h11⟩ := cons_of 4 l10 h10
 obtain ⟨x12, l12, rfl, h12⟩ := cons_of 3 l11 h11
 obtain ⟨x13, l13, rfl, h13⟩ := cons_of 2 l12 h12
 obtain ⟨x14, l14, rfl, h14⟩ := cons_of 1 l13 h13
 obtain ⟨x15, l15, rfl, h15⟩ := cons_of 0 l14 h14
 obtain rfl : l15 = [] := List.eq_nil_of_length_eq_zero h15
 exact ⟨_, _, _, _, _, _, _, _, _, _, _, _, _, _, _, _, rfl⟩
theorem digV_lit (x0 x1 x2 x3 x4 x5 x6 x7 x8 x9 x10 x11 x12 x13 x14 x15 : UInt8) : digV [x0, x1, x2, x3, x4, x5, x6, x7, x8, x9, x10, x11, x12, x13, x14, x15] = .agg #[.int .u8 x0.toNat, .int .u8 x1.toNat, .int .u8 x2.toNat, .int .u8 x3.toNat, .int .u8 x4.toNat, .int .u8 x5.toNat, .int .u8 x6.toNat, .int .u8 x7.toNat, .int .u8 x8.toNat, .int .u8 x9.toNat, .int .u8 x10.toNat, .int .u8 x11.toNat, .int .u8 x12.toNat, .int .u8 x13.toNat, .int .u8 x14.toNat, .int .u8 x15.toNat] := rfl
def shV (l : List UInt8) : Int := (((sumL l).getD 0 0).toNat : Int) % 16
theorem and15 (x : UInt8) : bits .and .u8 (x.toNat : Int) 15 = (x.toNat : Int) % 16 := by
 have := x.toNat_lt
 rw [u8_and _ _ (by omega) (by omega) (by omega) (by omega)]
 have e : ((15 : Int).toNat) = 15 := rfl
 rw [e, nat_mask4]; simp
theorem sumL_len (l : List UInt8) : (sumL l).length = 16 := rfl
theorem of_any (l : List UInt8) (hl : l.length = 4) (w : World) :
  Calls Try.prog 59 #[digV l] w fun e w' => e = .returned (.int .i64 (shV l)) ∧ Below w.heap.size w w' := by
 obtain ⟨cs, hcs⟩ : ∃ cs, cs = Lib.byteCells l := ⟨_, rfl⟩
 have hcl : cs.toArray.size = 4 := by rw [hcs]; simp [Lib.byteCells, hl]
 have hv : digV l = .agg cs.toArray := by rw [hcs]; rfl
 have G := sum_core l (some ⟨w.heap.size, 0, none⟩) w.heap.size 0 4 (by omega) (by omega) (w.alloc (.cells cs.toArray 32)) (fun _ => rfl) (by simp) (fun i hi => by
  have h := (Bk.new (w := w) rfl 32 cs.toArray).cell (0 + i)
  rw [h, Nat.zero_add, hcs]
  simp [Lib.byteCells, hi])
 rw [hl] at G
 obtain ⟨x0, x1, x2, x3, x4, x5, x6, x7, x8, x9, x10, x11, x12, x13, x14, x15, hx⟩ := len16 (sumL l) (sumL_len l)
 have hs : shV l = (x0.toNat : Int) % 16 := by unfold shV; rw [hx]; rfl
 rw [hx, digV_lit] at G
 have HS := Lib.hid hs
 have G := Lib.hid G
 rw [hv]
 clear hx hs hv hcs hl
 go_enter Try.func59, Try.ntmps59
 go_wp2_with fail
 refine G.out.mono ?_
 rintro e w1 ⟨rfl, b1⟩
 clear G
 have bw := ((Below.refl w.heap.size w).alloc (Nat.le_refl _) (.cells cs.toArray 32)).trans (b1.mono (by simp))
 have hz := bw.size
 go_wp2_with fail
 go_ret
 exact ⟨smret (congrArg (Value.int .i64) (by rw [and15 x0, IntWalk.wrap64_in _ ⟨by omega, by omega⟩]; exact HS.out.symm)), bw.alloc hz _⟩
theorem rof_any (l : List UInt8) (hl : l.length = 4) (w : World) :
  Calls Try.prog 33 #[digV l] w fun e w' => e = .returned (.int .i64 (shV l)) ∧ Below w.heap.size w w' := by
 obtain ⟨cs, hcs⟩ : ∃ cs, cs = Lib.byteCells l := ⟨_, rfl⟩
 have hcl : cs.toArray.size = 4 := by rw [hcs]; simp [Lib.byteCells, hl]
 have hv : digV l = .agg cs.toArray := by rw [hcs]; rfl
 have G := rsum_core l (some ⟨w.heap.size, 0, none⟩) w.heap.size 0 4 (by omega) (fun h => by cases h) (by omega) (w.alloc (.cells cs.toArray 32)) (fun _ => rfl) (by simp) (fun i hi => by
  have h := (Bk.new (w := w) rfl 32 cs.toArray).cell (0 + i)
  rw [h, Nat.zero_add, hcs]
  simp [Lib.byteCells, hi])
 rw [hl] at G
 obtain ⟨x0, x1, x2, x3, x4, x5, x6, x7, x8, x9, x10, x11, x12, x13, x14, x15, hx⟩ := len16 (sumL l) (sumL_len l)
 have hs : shV l = (x0.toNat : Int) % 16 := by unfold shV; rw [hx]; rfl
 rw [hx, digV_lit] at G
 have HS := Lib.hid hs
 have G := Lib.hid G
 rw [hv]
 clear hx hs hv hcs hl
 go_enter Try.func33, Try.ntmps33
 go_wp2_with fail
 refine G.out.mono ?_
 rintro e w1 ⟨rfl, b1⟩
 clear G
 have bw := ((Below.refl w.heap.size w).alloc (Nat.le_refl _) (.cells cs.toArray 32)).trans (b1.mono (by simp))
 have hz := bw.size
 go_wp2_with fail
 go_ret
 exact ⟨smret (congrArg (Value.int .i64) HS.out.symm), bw.alloc hz _⟩
end Go.Proofs.Ytmjfnpmnhehnkaa.Sm
namespace Go.Proofs.Ytmjfnpmnhehnkaa
open Go.RowKit
theorem shv_range (id : List UInt8) : ∃ s : Nat, Sm.shV id = (s : Int) ∧ s < 16 := by
 refine ⟨(Sm.shV id).toNat, ?_, ?_⟩ <;> unfold Sm.shV <;> omega
theorem iof_any (id : List UInt8) (hid : id.length = 4) (s : Nat) (hs : Sm.shV id = (s : Int)) (w : World) : Calls Try.prog 59 #[digV id] w fun e w' => e = .returned (.int .i64 s) ∧ Ex w w' := by
 refine (Sm.of_any id hid w).mono ?_
 rintro e w' ⟨rfl, h⟩
 exact ⟨by rw [hs], h⟩
def GetDet (vs : List Vt) (X : Nat) (c : Vc) (b : Bool) : Prop := b = decide (∃ q, q < vs.length ∧ idF vs q = X) ∧ (b = true → ∃ q y, vs[q]? = some y ∧ idF vs q = X ∧ c = y.ct) ∧ (b = false → c = zeroVc)
theorem get_det (vs : List Vt) (X : Nat) : ∃ c b, GetDet vs X c b := by
 by_cases h : ∃ q, q < vs.length ∧ idF vs q = X
 ·obtain ⟨q, hq, hx⟩ := h
  exact ⟨vs[q].ct, true, by symm; exact decide_eq_true ⟨q, hq, hx⟩, fun _ => ⟨q, vs[q], List.getElem?_eq_getElem hq, hx, rfl⟩, fun h => by cases h⟩
 exact ⟨zeroVc, false, by symm; exact decide_eq_false h, (fun h => by cases h), fun _ => rfl⟩
def IGet (c : Vc) (b : Bool) (w : World) (e : Ending) (w' : World) : Prop := ∃ x : Vt, e = .returned (.tuple #[x.V, .bool b]) ∧ x.ct = c ∧ TVN w' x ∧ Ex w w'
theorem tget_det {D : Nat} {rv : Value} {vs : List Vt} {c : Vc} {b : Bool} (id : List UInt8) (hid : id.length = 4) (hd : GetDet vs (idn id) c b) (w : World) (h : TB w D rv vs) : Calls Try.prog 71 #[.pointer (some ⟨D, 0, none⟩), digV id] w (IGet c b w) := by
 refine (tget_any D rv vs id w h hid).mono ?_
 rintro e w' ⟨x, b2, rfl, hb, h1, h2, hn, hx⟩
 obtain rfl : b2 = b := by rw [hb, hd.1]
 refine ⟨x, rfl, ?_, hn, hx⟩
 cases b2 with
 | false => rw [h2 rfl, hd.2.2 rfl]
 | true =>
  obtain ⟨q, y, e1, e2, e3⟩ := h1 rfl
  obtain ⟨q2, y2, f1, f2, f3⟩ := hd.2.1 rfl
  have l1 := (List.getElem?_eq_some_iff.1 e1).1
  have l2 := (List.getElem?_eq_some_iff.1 f1).1
  obtain rfl : q = q2 := by
   rcases Nat.lt_trichotomy q q2 with h9 | h9 | h9
   ·have := h.srt q q2 h9 l2; omega
   ·exact h9
   ·have := h.srt q2 q h9 l1; omega
  rw [e1] at f1; cases f1
  rw [e3, f3]
end Go.Proofs.Ytmjfnpmnhehnkaa
namespace Go.Proofs.Ytmjfnpmnhehnkaa
open Go.RowKit
theorem rising_ct {xs ys : List Vt} (h : ys.map Vt.ct = xs.map Vt.ct) (hx : Rising xs) : Rising ys := by
 have hl : ys.length = xs.length := by have := congrArg List.length h; simpa using this
 refine ⟨by rw [hl]; exact hx.1, fun i y hy => ?_, fun i hi => ?_⟩
 ·have e : (ys.map Vt.ct)[i]? = (xs.map Vt.ct)[i]? := by rw [h]
  rw [List.getElem?_map, List.getElem?_map, hy] at e
  cases hxi : xs[i]? with
  | none => rw [hxi] at e; cases e
  | some x =>
   rw [hxi] at e
   have e : y.ct = x.ct := by simpa using e
   rw [e]; exact hx.2.1 i x hxi
 rw [idF_ct h, idF_ct h]; exact hx.2.2 i (by rw [← hl]; exact hi)
theorem fill_from {w3 : World} {D B : Nat} {rv va : Value} {vs ys : List Vt} (h : TB w3 D rv vs) (hy : VRow w3 B va ys) (hr : Rising ys) : Calls Try.prog 61 #[.pointer (some ⟨D, 0, none⟩), va] w3 fun e w4 => e = .returned (.int .i64 0) ∧ ∃ rv' zs, TB w4 D rv' zs ∧ zs.map Vt.ct = ys.map Vt.ct ∧ (∀ g, rv'.ownBlock = some g → w3.heap.size ≤ g) ∧ Kt [169] D w3 w4 ∧ Md D w3 w4 := by
 obtain ⟨ad, cap, e, hin⟩ := hy.inn
 obtain ⟨ad2, cap2, e2, _, _, hc, _⟩ := own_rd hy.row
 rw [e] at e2; cases e2
 subst e
 refine (tfill_any2 D rv vs ad cap ys hc w3 h hin (fun i x hx => (hy.ins i x hx).vi)).mono ?_
 rintro e w4 ⟨h1 | h1, h2⟩
 ·obtain ⟨_, rfl, rv', zs, a1, a2, a3, a4⟩ := h1
  exact ⟨rfl, rv', zs, a1, a2, a3, a4, h2⟩
 exact absurd hr h1.1
theorem IM.fill {w w3 w4 : World} {M k : Nat} {D : Nat → Nat} {r : Nat → Value} {v : Nat → List Vt} {rv' : Value} {zs : List Vt} (h : IM w3 w.heap.size M D r v) (x : Ex w w3) (hk : k < 16) (ht : TB w4 (D k) rv' zs) (hf : ∀ g, rv'.ownBlock = some g → w3.heap.size ≤ g) (k1 : Kt [169] (D k) w3 w4) (k2 : Md (D k) w3 w4) : IM w4 w.heap.size M D (updF r k rv') (updF v k zs) ∧ Ex w w4 :=
 ⟨⟨k1.bk h.blk (by decide), h.ts.fill hk ht k2 hf⟩, Below.trans x (k1.below.mono (h.ts.lo k hk))⟩
end Go.Proofs.Ytmjfnpmnhehnkaa
namespace Go.Proofs.Ytmjfnpmnhehnkaa
open Go.RowKit
def refuseC (v : Vc) (never : Bool) (q : Qc) : Int :=
 if q.op = 1 ∧ never = false ∧ v.gone = false then 14 else if q.op ≠ 1 ∧ never = true then 22 else if q.op ≠ 1 ∧ v.gone = true then 24
 else if (q.op = 3 ∨ q.op = 4) ∧ q.own ≠ v.own then 25 else if (q.op = 1 ∨ q.op = 3) ∧ v.gen = 1099511627776 then 31 else 0
def VN (w : World) (B : Nat) (v : Vt) : Prop := v.Ok ∧ PN w B v.sec
theorem VN.vi {w : World} {B : Nat} {v : Vt} (h : VN w B v) : VI w v := ⟨h.1, h.2.1⟩
theorem VN.ext {w w' : World} {B : Nat} {v : Vt} (h : VN w B v) (k : Ex w w') : VN w' B v := ⟨h.1, h.2.ext k⟩
theorem VN.only {w w' : World} {B g : Nat} {v : Vt} (h : VN w B v) (ho : Only g w w') (hg : g < B) : VN w' B v := ⟨h.1, h.2.only ho hg⟩
structure VS (w : World) (lo hi : Nat) (v : Vt) : Prop where
 ok : v.Ok
 sec : v.sec.In w hi
 frm : ∀ a, v.sec.ad = some a → lo ≤ a.block ∧ a.block < hi
 typ : ∀ a, v.sec.ad = some a → ∃ cs, Bk w a.block 5 cs
 le : hi ≤ w.heap.size
theorem VN.vs {w : World} {B : Nat} {v : Vt} (h : VN w B v) : VS w B w.heap.size v := ⟨h.1, h.2.1, fun a e => ⟨(h.2.2 a e).1, (h.2.2 a e).2.elim fun _ hc => hc.lt⟩, fun a e => (h.2.2 a e).2, Nat.le_refl _⟩
theorem VS.ext {w w' : World} {lo hi : Nat} {v : Vt} (h : VS w lo hi v) (k : Ex w w') : VS w' lo hi v := ⟨h.ok, h.sec.keep (k.mono h.le), h.frm, fun a e => (h.typ a e).elim fun cs hc => ⟨cs, hc.ext k⟩, Nat.le_trans h.le k.size⟩
theorem VS.only {w w' : World} {lo hi g : Nat} {v : Vt} (h : VS w lo hi v) (ho : Only g w w') (hg : g < lo ∨ hi ≤ g) : VS w' lo hi v :=
 ⟨h.ok, h.sec.only ho (fun a e => by have := h.frm a e; omega), h.frm, fun a e => (h.typ a e).elim fun cs hc => ⟨cs, ho.bk hc (by have := h.frm a e; omega)⟩, by rw [ho.size]; exact h.le⟩
theorem VS.used {w : World} {lo hi : Nat} {v : Vt} (h : VS w lo hi v) (n : Int) (n0 : -9223372036854775808 ≤ n) (n1 : n ≤ 9223372036854775807) : VS w lo hi { v with used := n } := ⟨{ h.ok with used0 := n0, used1 := n1 }, h.sec, h.frm, h.typ, h.le⟩
theorem VS.gone {w : World} {lo hi : Nat} {id : List UInt8} {g : Int} {wi : Bool} (h : id.length = 4) (g0 : 0 ≤ g) (g1 : g < 18446744073709551616) (k : hi ≤ w.heap.size) : VS w lo hi (goneVt id g wi) := ⟨goneVt_ok h g0 g1, nilB_in _ _, (fun a e => by cases e), (fun a e => by cases e), k⟩
theorem Md.new {g h : Nat} {w w1 w2 : World} (k : Md g w w1) (ho : Only h w1 w2) (hh : w.heap.size ≤ h) (hg : g < w.heap.size) : Md g w w2 :=
 ⟨fun B hB a ha => ho.below B (by omega) a (k.below B hB a ha), fun i hi hl => (ho.other i (by omega)).trans (k.other i hi hl), by rw [ho.size]; exact k.size⟩
def DB (w : World) (g : Nat) (X : List UInt8) : Prop := X.length = 16 ∧ Bk w g 34 (Lib.byteCells X).toArray
theorem DB.ext {w w' : World} {g : Nat} {X : List UInt8} (h : DB w g X) (k : Ex w w') : DB w' g X := ⟨h.1, h.2.ext k⟩
def wrongC (v : Vc) : Vc := if v.used + 1 = v.lim then goneC v.id v.gen true else { v with used := v.used + 1 }
def guessC (v : Vc) (pin : List UInt8) (r : Rc) : Vc × Rc × Bool := if pin = v.pin then (v, { r with sec := v.sec, left := v.left }, false) else (wrongC v, { r with why := 23, left := (wrongC v).left }, true)
def freshC (v : Vc) (q : Qc) : Vc := ⟨q.id, v.gen + 1, q.pin, q.sec, q.lim, 0, q.own, false, false⟩
def actC (v : Vc) (q : Qc) (r : Rc) : Vc × Rc × Bool := if q.op = 2 then guessC v q.pin r else if q.op = 4 then (goneC v.id v.gen false, r, true) else (freshC v q, { r with left := (freshC v q).left }, true)
end Go.Proofs.Ytmjfnpmnhehnkaa
namespace Go.Proofs.Ytmjfnpmnhehnkaa
open Go.RowKit
theorem Ex.sz {w w' : World} (h : Ex w w') : w.heap.size ≤ w'.heap.size := Below.size h
inductive Ar where
 | any
 | is (x : Value)
 | pn (B : Nat) (l : List UInt8)
 | vx (v : Vt) (l : List UInt8) (B : Nat)
 | qx (q : Qt) (l : List UInt8) (B : Nat)
 | blk (base : Nat) (t : TypeId) (cs : Array Value)
 | emp (base : Nat)
 | intb (k : IntKind) (lo hi : Int)
 | dig (n : Nat)
 | sat (p : Value → Prop)
def Ar.holds : Ar → Value → World → Prop
 | .any, _, _ => True
 | .is x, v, _ => v = x
 | .pn B l, v, w => ∃ p : Pt, v = p.V ∧ p.l = l ∧ PN w B p
 | .vx u l B, v, w => ∃ p : Pt, v = Vt.V { u with sec := p } ∧ p.l = l ∧ PN w B p
 | .qx u l B, v, w => ∃ p : Pt, v = Qt.V { u with sec := p } ∧ p.l = l ∧ PN w B p
 | .blk base t cs, v, w => ∃ g, v = .pointer (some ⟨g, 0, none⟩) ∧ base ≤ g ∧ Bk w g t cs
 | .emp base, v, w => ∃ g, v = .slice (some ⟨g, 0, none⟩) 0 0 ∧ base ≤ g ∧ Bk w g 5 #[]
 | .intb k lo hi, v, _ => ∃ m : Int, v = .int k m ∧ lo ≤ m ∧ m ≤ hi
 | .dig n, v, _ => ∃ d : List UInt8, v = digV d ∧ d.length = n
 | .sat p, v, _ => p v
theorem Ar.stable {s : Ar} {v : Value} {w w' : World} (h : s.holds v w) (k : Ex w w') : s.holds v w' := by
 cases s with
 | any => exact h
 | is x => exact h
 | pn B l => obtain ⟨p, h1, h2, h3⟩ := h; exact ⟨p, h1, h2, h3.ext k⟩
 | vx u l B => obtain ⟨p, h1, h2, h3⟩ := h; exact ⟨p, h1, h2, h3.ext k⟩
 | qx u l B => obtain ⟨p, h1, h2, h3⟩ := h; exact ⟨p, h1, h2, h3.ext k⟩
 | blk base t cs => obtain ⟨g, h1, h2, h3⟩ := h; exact ⟨g, h1, h2, h3.ext k⟩
 | emp base => obtain ⟨g, h1, h2, h3⟩ := h; exact ⟨g, h1, h2, h3.ext k⟩
 | intb k lo hi => exact h
 | dig n => exact h
 | sat p => exact h
def Ar.far (g : Nat) : Ar → Prop
 | .pn B _ => g < B
 | .vx _ _ B => g < B
 | .qx _ _ B => g < B
 | .blk B _ _ => g < B
 | .emp B => g < B
 | _ => True
theorem Ar.only {s : Ar} {v : Value} {w w' : World} {g : Nat} (h : s.holds v w) (ho : Only g w w') (hf : s.far g) : s.holds v w' := by
 cases s with
 | any => exact h
 | is x => exact h
 | pn B l => obtain ⟨p, h1, h2, h3⟩ := h; exact ⟨p, h1, h2, h3.only ho hf⟩
 | vx u l B => obtain ⟨p, h1, h2, h3⟩ := h; exact ⟨p, h1, h2, h3.only ho hf⟩
 | qx u l B => obtain ⟨p, h1, h2, h3⟩ := h; exact ⟨p, h1, h2, h3.only ho hf⟩
 | blk base t cs => obtain ⟨g', h1, h2, h3⟩ := h; exact ⟨g', h1, h2, ho.bk h3 (by have : g < base := hf; omega)⟩
 | emp base => obtain ⟨g', h1, h2, h3⟩ := h; exact ⟨g', h1, h2, ho.bk h3 (by have : g < base := hf; omega)⟩
 | intb k lo hi => exact h
 | dig n => exact h
 | sat p => exact h
theorem own_less {w : World} {B B' : Nat} {v : Value} {l : List UInt8} (h : ownU w B v l) (k : B' ≤ B) : ownU w B' v l := by
 obtain ⟨h1, h2 | ⟨g, cap, cur, h3, h4, r⟩⟩ := h
 ·exact ⟨h1, .inl h2⟩
 exact ⟨h1, .inr ⟨g, cap, cur, h3, by omega, r⟩⟩
theorem wp_app_emp {o : Oper} {a : Act} {w : World} {K : Act → World → Prop} {Q : Exit → Act → World → Prop} (s x : Operand)
  (hop : o.op = .call { callee := .builtin .append, args := #[s, x], argTypes := #[25, 25] }) (B g : Nat) (q : Pt) (hs : a.eval s = .slice (some ⟨g, 0, none⟩) 0 0) (hx : a.eval x = q.V)
  (hB : B ≤ g) (hb : Bk w g 5 #[]) (hBw : B ≤ w.heap.size) (hq : q.In w w.heap.size) (hN : q.l.length ≤ 100000000000000)
  (h : ∀ v' w', ownU w' B v' q.l → Ex w w' → K (a.put o.dst v') w') : o.wp Try.prog a w K Q := by
 obtain ⟨i0, hi0, hz0, hz1, hz2⟩ := info_parts sm_u8
 have key : ∃ v' w', (Builtin.append_ #[25, 25] o.type #[.slice (some ⟨g, 0, none⟩) 0 0, q.V]).run Try.prog w = .ok v' w' ∧ ownU w' B v' q.l ∧ Ex w w' := by
  have ow : ownU w B (.slice (some ⟨g, 0, none⟩) 0 0) [] := ⟨rfl, .inr ⟨g, 0, #[], rfl, hB, hb, Nat.le_refl _, Nat.zero_le _, rfl, rfl⟩⟩
  by_cases hq0 : 0 < q.l.length
  ·obtain ⟨aq, hqa, hqc⟩ := hq.cells hq0
   unfold Pt.V
   rw [hqa]
   obtain ⟨v', w', hrun, r1, r2⟩ := run_append_arg_grows (P := Try.prog) w 25 o.type 5 i0 _ 1 1 Try.underlying25 hi0 hz0 hz1 hz2 rfl (by omega) ⟨g, 0, none⟩ 0 0 [] (by simp) (fun j u hu => by simp at hu) aq q.l.length q.cap (Lib.byteCells q.l) (by simp [Lib.byteCells]) hqc (by omega) (by unfold maxLen; omega) (by omega)
   refine ⟨v', w', hrun, ?_, (Below.refl _ _).grown r2 (Nat.le_refl _) (fun k hk => by cases hk)⟩
   have r1 : ownU w' w.heap.size v' q.l := by
    unfold ownU
    simpa using r1
   exact own_less r1 hBw
  ·have hz : q.l = [] := List.eq_nil_of_length_eq_zero (by omega)
   refine ⟨.slice (some ⟨g, 0, none⟩) 0 0, w, ?_, by rw [hz]; exact ow, Ex.refl _⟩
   unfold Pt.V
   rw [hz]
   cases hqa : q.ad with
   | none =>
    rw [hq.nil hqa]
    exact run_append_owned_none w B 25 o.type 5 i0 1 Try.underlying25 hi0 _ _ _ ow
   | some aq => simp [Builtin.append_, run_underlying Try.underlying25, sizeOf, typeInfo, hi0, Builtin.lenOf, Builtin.firstCells, storeCells, loadCells, loadCellsFrom]
 obtain ⟨v', w', hrun, r1, r2⟩ := key
 unfold Oper.wp
 simp [execOp, hop, resolve, invoke, builtin, hs, hx, hrun, Result.andThen]
 exact h v' w' r1 r2
end Go.Proofs.Ytmjfnpmnhehnkaa
namespace Go.Proofs.Ytmjfnpmnhehnkaa
open Go.RowKit
def repRt (e : Int) (id : List UInt8) (c n : Int) : Rt := ⟨e, id, 0, 0, nilB, c, n⟩
def errRc : Rc := (repRt 12 z4 0 0).ct
def doC (v : Vc) (q : Qc) : Vc × Rc × Bool :=
 if q.right = false ∨ (v ≠ zeroVc ∧ (v.right = false ∨ v.id ≠ q.id)) then (zeroVc, errRc, false)
 else if refuseC v (decide (v = zeroVc)) q = 0 then (match actC v q (repRt 0 q.id q.client q.num).ct with | (x, y, b) => (x, { y with gen := x.gen }, b))
 else (v, { (repRt (refuseC v (decide (v = zeroVc)) q) q.id q.client q.num).ct with gen := v.gen }, false)
end Go.Proofs.Ytmjfnpmnhehnkaa
namespace Go.Proofs.Ytmjfnpmnhehnkaa
open Go.RowKit
def PutRel (vs : List Vt) (x : Vt) (ls : List Vt) : Prop :=
 (x.ct.right = false ∧ ls = vs) ∨ (x.ct.right = true ∧ ∃ p z, BI vs.length (idF vs) (idn x.id) p ∧ z.ct = x.ct ∧ ((p < vs.length ∧ idF vs p = idn x.id ∧ ls = vs.set p z) ∨ (NotIn vs (idn x.id) ∧ vs.length = 4 ∧ ls = vs) ∨ (NotIn vs (idn x.id) ∧ vs.length < 4 ∧ ls = vs.take p ++ z :: vs.drop p)))
theorem updF_id {α : Type} (f : Nat → α) (k : Nat) : updF f k (f k) = f := by
 funext i; unfold updF; split
 ·rename_i h; rw [h]
 rfl
theorem Tc.kt9 {w w' : World} {D : Nat} {rv : Value} {vs : List Vt} (k : Tc D rv.ownBlock w w') (ht : TB w D rv vs) {g : Nat} {t : TypeId} {cs : Array Value} (hb : Bk w g t cs) (h1 : t ≠ 169) (h2 : t ≠ 36) : Bk w' g t cs := by
 refine k.bk hb (fun e => ?_) (fun e => ?_)
 ·subst e
  have h3 := ht.blk
  unfold Bk at h3 hb; rw [hb] at h3; exact h1 (Obj.cells.inj (Option.some.inj h3)).2.1
 rcases ht.row.blk with h3 | ⟨gb, h3, _, _, cs2, hb2⟩
 ·rw [h3] at e; cases e
 rw [h3] at e; cases e
 unfold Bk at hb hb2; rw [hb] at hb2; exact h2 (Obj.cells.inj (Option.some.inj hb2)).2.1
theorem PN.tc9 {w w' : World} {D B : Nat} {rv : Value} {vs : List Vt} {p : Pt} (h : PN w B p) (k : Tc D rv.ownBlock w w') (ht : TB w D rv vs) : PN w' B p := by
 refine ⟨⟨h.1.cap, h.1.nil, fun h0 => ?_⟩, fun a e => ⟨(h.2 a e).1, (h.2 a e).2.elim fun cs hc => ⟨cs, k.kt9 ht hc (by decide) (by decide)⟩⟩⟩
 obtain ⟨a, o, e, hB, hc⟩ := h.1.read h0
 obtain ⟨_, cs, hb⟩ := h.2 _ e
 refine ⟨a, o, e, Nat.lt_of_lt_of_le hB k.size, fun i hi => ?_⟩
 rw [← hc i hi]
 have h2 := k.kt9 ht hb (by decide) (by decide)
 unfold Bk at hb h2
 simp only [World.cell?, h2, hb]
theorem Tc.ex9 {w w' wr : World} {D : Nat} {rv : Value} {vs : List Vt} (k : Tc D rv.ownBlock wr w') (ht : TB wr D rv vs) (h : Ex w wr) (lo : w.heap.size ≤ D) : Ex w w' :=
 k.ex h lo (fun g hg => Nat.le_trans lo (Nat.le_of_lt (ht.row.row.lt g hg).1))
def IStep (v : Nat → List Vt) (s : Nat) (q : Qc) (y : Rc) (v' : Nat → List Vt) : Prop :=
 (q.right = false ∧ y = errRc ∧ v' = v) ∨
 (q.right = true ∧ ∃ c b, GetDet (v s) (idn q.id) c b ∧
  (((doC c q).2.2 = false ∧ y = (doC c q).2.1 ∧ v' = v) ∨
   ((doC c q).2.2 = true ∧ b = false ∧ 4 ≤ (v s).length ∧ y = (repRt 13 q.id q.client q.num).ct ∧ v' = v) ∨
   ((doC c q).2.2 = true ∧ (b = true ∨ (v s).length < 4) ∧ y = (doC c q).2.1 ∧ ∃ x ls, x.ct = (doC c q).1 ∧ PutRel (v s) x ls ∧ v' = updF v s ls)))
end Go.Proofs.Ytmjfnpmnhehnkaa
namespace Go.Proofs.Ytmjfnpmnhehnkaa
open Go.RowKit
def RightV (v : Nat → List Vt) : Prop := ∀ i, i < 16 → ∀ (j : Nat) (x : Vt), (v i)[j]? = some x → x.ct.right = true
theorem RightV.none {v : Nat → List Vt} (h : ∀ i, i < 16 → v i = []) : RightV v := fun i hi j x hx => by rw [h i hi] at hx; simp at hx
theorem IM.rising {w : World} {B M : Nat} {D : Nat → Nat} {r : Nat → Value} {v : Nat → List Vt} (h : IM w B M D r v) (hr : RightV v) (i : Nat) (hi : i < 16) : Rising (v i) :=
 ⟨(h.ts.tb i hi).len, fun j x hx => hr i hi j x hx, fun j hj => (h.ts.tb i hi).srt j (j + 1) (Nat.lt_succ_self j) hj⟩
theorem RightV.ct {v v2 : Nat → List Vt} (h : ∀ i, i < 16 → (v2 i).map Vt.ct = (v i).map Vt.ct) (hr : RightV v) : RightV v2 := fun i hi j x hx => by
 have e : ((v2 i).map Vt.ct)[j]? = ((v i).map Vt.ct)[j]? := by rw [h i hi]
 rw [List.getElem?_map, List.getElem?_map, hx] at e
 cases hy : (v i)[j]? with
 | none => rw [hy] at e; cases e
 | some y =>
  rw [hy] at e
  have e : x.ct = y.ct := by simpa using e
  rw [e]; exact hr i hi j y hy
theorem PutRel.right {vs ls : List Vt} {x : Vt} (h : PutRel vs x ls) (hv : ∀ (j : Nat) (y : Vt), vs[j]? = some y → y.ct.right = true) (j : Nat) (y : Vt) (hy : ls[j]? = some y) : y.ct.right = true := by
 have mem : ∀ y ∈ vs, y.ct.right = true := fun y hm => by
  obtain ⟨i, hi, e⟩ := List.getElem_of_mem hm
  exact hv i y (by rw [List.getElem?_eq_getElem hi, e])
 rcases h with ⟨_, rfl⟩ | ⟨hx, p, z, _, hz, ⟨_, _, rfl⟩ | ⟨_, _, rfl⟩ | ⟨_, _, rfl⟩⟩
 ·exact hv j y hy
 ·rcases List.mem_or_eq_of_mem_set (List.mem_of_getElem? hy) with hm | rfl
  ·exact mem y hm
  rw [hz]; exact hx
 ·exact hv j y hy
 rcases List.mem_append.1 (List.mem_of_getElem? hy) with hm | hm
 ·exact mem y (List.mem_of_mem_take hm)
 rcases List.mem_cons.1 hm with rfl | hm
 ·rw [hz]; exact hx
 exact mem y (List.mem_of_mem_drop hm)
theorem IStep.right {v v' : Nat → List Vt} {s : Nat} {q : Qc} {y : Rc} (h : IStep v s q y v') (hs : s < 16) (hr : RightV v) : RightV v' := by
 rcases h with ⟨_, _, rfl⟩ | ⟨_, c, b, _, ⟨_, _, rfl⟩ | ⟨_, _, _, _, rfl⟩ | ⟨_, _, _, x, ls, _, hp, rfl⟩⟩
 ·exact hr
 ·exact hr
 ·exact hr
 intro i hi j y hy
 by_cases e : i = s
 ·subst e; rw [updF_same] at hy; exact hp.right (hr i hi) j y hy
 rw [updF_ne _ _ e] at hy; exact hr i hi j y hy
structure Apart (D : Nat → Nat) (r : Nat → Value) (D2 : Nat → Nat) (r2 : Nat → Value) : Prop where
 dd : ∀ i j, i < 16 → j < 16 → D i ≠ D2 j
 rr : ∀ i j, i < 16 → j < 16 → Djn (r i) (r2 j)
theorem IM.other {w w' : World} {B M B2 M2 s : Nat} {D D2 : Nat → Nat} {r r2 : Nat → Value} {v v2 : Nat → List Vt} (h : IM w B M D r v) (h2 : IM w B2 M2 D2 r2 v2) (hs : s < 16) (k : Tc (D s) (r s).ownBlock w w') (ha : Apart D r D2 r2) : IM w' B2 M2 D2 r2 v2 :=
 ⟨k.kt9 (h.ts.tb s hs) h2.blk (by decide) (by decide), ⟨fun i hi => (h2.ts.tb i hi).other (h.ts.tb s hs) k (fun e => ha.dd s i hs hi e.symm) (ha.rr s i hs hi).symm, h2.ts.lo, h2.ts.dd, h2.ts.rr⟩⟩
end Go.Proofs.Ytmjfnpmnhehnkaa
namespace Go.Proofs.Ytmjfnpmnhehnkaa
open Go.RowKit
structure JS (T : List (Value → Prop)) (prs : List (Nat × Nat)) (St : Array Bool → (Nat → Value) → World → Prop) (listed : Array Bool) (f : Nat → Value) (w : World) : Prop where
 vals : ∀ i, listed.getD i false = true → (T.getD i (fun _ => True)) (f i)
 st : St listed f w
 ord : ∀ x ∈ prs, listed.getD x.1 false = true → listed.getD x.2 false = true
section
variable {T : List (Value → Prop)} {prs : List (Nat × Nat)} {St : Array Bool → (Nat → Value) → World → Prop}
theorem JS.start {w : World} (listed : Array Bool) (f : Nat → Value) (h0 : ∀ i, listed.getD i false = false) (hs : St listed f w) : JS T prs St listed f w :=
 ⟨fun i hi => absurd hi (by rw [h0 i]; decide), hs, fun x _ hx => absurd hx (by rw [h0 x.1]; decide)⟩
theorem JS.next {listed : Array Bool} {f : Nat → Value} {w w' : World} (h : JS T prs St listed f w) {i : Nat} (hi : i < listed.size) {v : Value} (hv : (T.getD i (fun _ => True)) v) (hs : St (listed.setIfInBounds i true) (upd f i v) w') (ho : ∀ x ∈ prs, x.1 = i → listed.getD x.2 false = true) :
  JS T prs St (listed.setIfInBounds i true) (upd f i v) w' := by
 have mono : ∀ c, listed.getD c false = true → (listed.setIfInBounds i true).getD c false = true := fun c hc => by
  by_cases e : i = c
  ·subst e; exact set_new hi
  ·rw [gset e false]; exact hc
 refine ⟨fun j hj => ?_, hs, fun x hx h1 => ?_⟩
 ·by_cases e : j = i
  ·subst e; rw [upd_same]; exact hv
  ·rw [upd_ne _ _ e]
   refine h.vals j ?_
   rcases listed_set hj with rfl | hj
   ·exact absurd rfl e
   ·exact hj
 ·rcases listed_set h1 with e | h1
  ·exact mono _ (ho x hx e)
  ·exact mono _ (h.ord x hx h1)
theorem JS.nx {listed : Array Bool} {f : Nat → Value} {w w' : World} {N : Nat} {TT : List (Value → Prop)} (h : JS T prs St listed f w) (hls : listed.size = N) (hT : T = TT) {i : Nat} (hi : decide (i < N) = true) {v : Value} (hv : (TT.getD i (fun _ => True)) v) (hs : St (listed.setIfInBounds i true) (upd f i v) w') (ho : ∀ x ∈ prs, x.1 = i → listed.getD x.2 false = true) :
  JS T prs St (listed.setIfInBounds i true) (upd f i v) w' := h.next (by rw [hls]; exact of_decide_eq_true hi) (by rw [hT]; exact hv) hs ho
theorem JS.na {listed : Array Bool} {f : Nat → Value} {w w' : World} {N : Nat} {TT : List (Value → Prop)} (h : JS T prs St listed f w) (hls : listed.size = N) (hT : T = TT) {i : Nat} {v : Value} (hs : St (listed.setIfInBounds i true) (upd f i v) w') (hi : decide (i < N) = true := by rfl) (ho : (prs.all fun x => x.1 != i) = true := by decide) (hv : (TT.getD i (fun _ => True)) v := by first | rfl | exact congrArg (Value.int .i64) (by omega) | exact congrArg (Value.int .i64) (by rw [IntKind.wrap_i64]; omega) | exact congrArg Value.bool (decide_eq_false (by omega)) | exact congrArg Value.bool (decide_eq_true (by omega)) | exact congrArg (Value.int .u64) (by omega)) :
  JS T prs St (listed.setIfInBounds i true) (upd f i v) w' := h.nx hls hT hi hv hs (fun x hx e => by have := List.all_eq_true.1 ho x hx; simp [e] at this)
theorem JS.fa {TT : List (Value → Prop)} {listed : Array Bool} {f : Nat → Value} {w : World} (h : JS T prs St listed f w) (hT : T = TT) {j : Nat} (hd : listed.getD j false = true) {V : Value} (hV : TT.getD j (fun _ => True) = fun zz => zz = V) : f j = V := by
 have h1 := h.vals j hd
 rw [hT, hV] at h1
 exact h1
theorem JS.is {TT : List (Value → Prop)} {listed : Array Bool} {f : Nat → Value} {w : World} (h : JS T prs St listed f w) (hT : T = TT) {j : Nat} {ops : Array Oper} {tm : Array Value} (hd : listed.getD j false = true ∧ ∀ oj, ops[j]? = some oj → ∀ t, oj.dst = some t → tm.getD t undef = f j) {V : Value} (hV : TT.getD j (fun _ => True) = fun zz => zz = V) (oj : Oper) (ho : ops[j]? = some oj) (t : Tmp) (ht : oj.dst = some t) : tm.getD t undef = V := by
 have h1 := h.vals j hd.1
 rw [hT, hV] at h1
 rw [hd.2 oj ho t ht]; exact h1
theorem JS.iq {TT : List (Value → Prop)} {listed : Array Bool} {f : Nat → Value} {w : World} (h : JS T prs St listed f w) (hT : T = TT) {j : Nat} {ops : Array Oper} {tm : Array Value} (hd : listed.getD j false = true ∧ ∀ oj, ops[j]? = some oj → ∀ t, oj.dst = some t → tm.getD t undef = f j) {V : Value} (hV : TT.getD j (fun _ => True) = fun zz => zz = V) (oj : Oper) (ho : ops[j]? = some oj) (t : Tmp) (ht : oj.dst = some t) : tm[t]?.getD undef = V := by
 rw [← Array.getD_eq_getD_getElem?]; exact h.is hT hd hV oj ho t ht
theorem JS.last {listed : Array Bool} {f : Nat → Value} {w : World} (h : JS T prs St listed f w) {i : Nat} (hi : listed.getD i false = true) : (T.getD i (fun _ => True)) (f i) := h.vals i hi
end
def k3q (g : Nat) : Qt := ⟨1, [1, 0, 0, 0], z16, ⟨some ⟨g, 0, none⟩, 1, [115]⟩, 2, z16, z16, 0, 0⟩
def k3z : Vc := (doC zeroVc (k3q 0).ct).1
end Go.Proofs.Ytmjfnpmnhehnkaa
namespace Go.Proofs.Ytmjfnpmnhehnkaa
open Go.RowKit
def DigPost (n : Nat) (w : World) (e : Ending) (w' : World) : Prop := ∃ d : List UInt8, e = .returned (digV d) ∧ d.length = n ∧ Ex w w'
theorem u8_of (a : Int) : ∃ x : UInt8, (x.toNat : Int) = a % 256 := by
 refine ⟨UInt8.ofNat (a % 256).toNat, ?_⟩
 rw [UInt8.toNat_ofNat_of_lt' (by have := Int.emod_lt_of_pos a (show (0:Int) < 256 by decide); have := Int.emod_nonneg a (show (256:Int) ≠ 0 by decide); show (a % 256).toNat < 256; omega)]
 have := Int.emod_nonneg a (show (256:Int) ≠ 0 by decide)
 omega
theorem built_d (x y : UInt8) : Try.prog.built 34 [(0, .int .u8 x.toNat), (1, .int .u8 y.toNat), (2, .int .u8 3)] = some (Lib.byteCells [x, y, 3, 0, 0, 0, 0, 0, 0, 0, 0, 0, 0, 0, 0, 0]).toArray := by kernel_rfl
theorem st_new {o : Oper} {a : Act} {w : World} {K : Act → World → Prop} {Q : Exit → Act → World → Prop} {ty : TypeId} (x y : Operand) (g : Nat) (L : List UInt8) (C : Array Value) (ho : o.op = .store ty x y) (ha : a.eval x = .pointer (some ⟨g, 0, none⟩)) (hy : a.eval y = digV L) (hB : Bk w g ty C) (hC : C.size = L.length)
  (hs : (Try.prog.info? ty).map (·.size) = some L.length) (hk : ∀ w', Bk w' g ty (Lib.byteCells L).toArray → Only g w w' → K (a.put o.dst undef) w') : o.wp Try.prog a w K Q := by
 have hB' : Bk w g ty C.toList.toArray := by simpa using hB
 refine wp_stp (Lib.byteCells L) x y g 0 ho ha hy hB' (by rw [byteCells_len]; simp; omega) (by rw [byteCells_len]; exact hs) (bytes_one L) (fun w' h1 h2 => hk w' ?_ h2)
 have e : C.toList.take 0 ++ Lib.byteCells L ++ C.toList.drop (0 + (Lib.byteCells L).length) = Lib.byteCells L := by
  rw [List.take_zero, List.nil_append, List.drop_eq_nil_of_le (by rw [byteCells_len]; simp; omega), List.append_nil]
 rw [e] at h1; exact h1
theorem res_dig {fn : Func} {a : Tmp} {ty : TypeId} (h : fn.results = #[.cell a ty]) (tmps : Array Value) (w : World) (g : Nat) (ha : tmps.getD a undef = .pointer (some ⟨g, 0, none⟩)) {L : List UInt8} (hB : Bk w g ty (Lib.byteCells L).toArray) {dd : TypeDesc} (hu : Try.prog.underlying ty = some dd) (hr : dd.isRow = true) (hs : (Try.prog.info? ty).map (·.size) = some L.length) :
  (results fn tmps).run Try.prog w = .ok (digV L) w := res_row1 h tmps w g ha hB hu hr (by rw [byteCells_len]; exact hs)
theorem d_any (n : Int) (hn : -9223372036854775808 ≤ n ∧ n ≤ 9223372036854775807) (w : World) : Calls Try.prog 68 #[.int .i64 n] w (DigPost 16 w) := by
 obtain ⟨n0, n1⟩ := hn
 obtain ⟨x, hx⟩ := u8_of n
 have HX := Hi hx
 obtain ⟨y, hy⟩ := u8_of (n / 256)
 have HY := Hi hy
 clear hx hy
 go_enter Try.func68, Try.ntmps68
 go_wp2_with ((with_reducible refine so0 ?_ ?_); (focus rfl))
 refine at9 (by go_simp) fun K0 hK => wp_build _ _ rfl _ ((show Try.prog.built 34 [(0, .int .u8 (n % 256)), (1, .int .u8 (n / 256 % 256)), (2, .int .u8 3)] = some (Lib.byteCells [x, y, 3, 0, 0, 0, 0, 0, 0, 0, 0, 0, 0, 0, 0, 0]).toArray from by rw [← HX.out, ← HY.out]; exact built_d x y)) (hK _ _ ?_)
 clear hK
 go_wp2_with ((with_reducible refine so0 ?_ ?_); (focus rfl))
 refine at9 (by go_simp) fun K0 hK => st_new _ _ w.heap.size [x, y, 3, 0, 0, 0, 0, 0, 0, 0, 0, 0, 0, 0, 0, 0] _ rfl rfl rfl (Bk.new rfl _ _) rfl Try.sizeDig (fun w3 hd ho => hK _ _ ?_)
 clear hK
 have X := ho.below w.heap.size (Nat.le_refl _) w (Ex.alloc w _)
 clear ho
 go_wp2_with fail
 exact bodyPost_ret (res_dig rfl _ _ w.heap.size rfl hd Try.underlying34 rfl Try.sizeDig) rfl ⟨_, rfl, rfl, X⟩
def i64 (n : Int) : Prop := -9223372036854775808 ≤ n ∧ n ≤ 9223372036854775807
end Go.Proofs.Ytmjfnpmnhehnkaa
namespace Go.Proofs.Ytmjfnpmnhehnkaa
open Go.RowKit
section
variable {P : Program} {ops : Array Oper} {Q : Exit → Act → World → Prop} {a0 : Act} {w0 : World} {φ : Nat → Value → World → Prop}
end
end Go.Proofs.Ytmjfnpmnhehnkaa
namespace Go.Proofs.Ytmjfnpmnhehnkaa
open Go.RowKit
section
variable {P : Program} {ops : Array Oper} {Q : Exit → Act → World → Prop} {a0 : Act} {w0 : World} {φ : Nat → Value → World → Prop}
end
end Go.Proofs.Ytmjfnpmnhehnkaa
namespace Go.Proofs.Ytmjfnpmnhehnkaa
open Go.RowKit
theorem built_id (x : UInt8) : Try.prog.built 32 [(0, .int .u8 x.toNat), (1, .int .u8 7)] = some (Lib.byteCells [x, 7, 0, 0]).toArray := by kernel_rfl
theorem id_any (n : Int) (hn : -9223372036854775808 ≤ n ∧ n ≤ 9223372036854775807) (w : World) : Calls Try.prog 32 #[.int .i64 n] w (DigPost 4 w) := by
 have CW := Hi (fun w1 => within_any n 0 255 hn (by omega) (by omega) (by omega) w1)
 go_enter Try.func32, Try.ntmps32
 go_wp2_with ((with_reducible refine so0 ?_ ?_); (focus rfl))
 refine (CW.out _).mono ?_
 rintro e w2 ⟨m, rfl, h1, h2, rfl⟩
 obtain ⟨x, hx⟩ := u8_of m
 have em : m % 256 = m := Int.emod_eq_of_lt h1 (by omega)
 rw [em] at hx
 have HX := Hi hx
 have hc : IntKind.u8.wrap m = m := em
 have HC := Hi hc
 clear hx em CW hn
 go_wp2_with ((with_reducible refine so0 ?_ ?_); (focus rfl))
 refine at9 (by go_simp) fun K0 hK => wp_build _ _ rfl _ ((show Try.prog.built 32 [(0, .int .u8 m), (1, .int .u8 7)] = some (Lib.byteCells [x, 7, 0, 0]).toArray from by rw [← HX.out]; exact built_id x)) (hK _ _ ?_)
 clear hK
 go_wp2_with ((with_reducible refine so0 ?_ ?_); (focus rfl))
 refine at9 (by go_simp) fun K0 hK => st_new _ _ w.heap.size [x, 7, 0, 0] _ rfl rfl rfl (Bk.new rfl _ _) rfl Try.sizeId (fun w3 hd ho => hK _ _ ?_)
 clear hK
 have X := ho.below w.heap.size (Nat.le_refl _) w (Ex.alloc w _)
 clear ho
 go_wp2_with fail
 exact bodyPost_ret (res_dig rfl _ _ w.heap.size rfl hd Try.underlying32 rfl Try.sizeId) rfl ⟨[x, 7, 0, 0], rfl, rfl, X⟩
structure Kq where
 op : Int
 id : Int
 pin : Int
 own : Int
 lim : Int
 client : Int
 num : Int
 sec : Pt
def Kq.C (x : Kq) : List Value := [.int .i64 x.op, .int .i64 x.id, .int .i64 x.pin, .int .i64 x.own, .int .i64 x.lim, .int .i64 x.client, .int .u64 x.num, x.sec.V]
def Kq.V (x : Kq) : Value := .agg x.C.toArray
structure Kq.In (x : Kq) (w : World) : Prop where
 op : i64 x.op
 id : i64 x.id
 pin : i64 x.pin
 own : i64 x.own
 lim : i64 x.lim
 client : i64 x.client
 num0 : 0 ≤ x.num
 num1 : x.num < 18446744073709551616
 sec : x.sec.In w w.heap.size
 sz : x.sec.l.length ≤ 9223372036854775807
theorem Kq.In.ext {x : Kq} {w w' : World} (h : x.In w) (k : Ex w w') : x.In w' := { h with sec := h.sec.ext k }
def KB (w : World) (g : Nat) (x : Kq) : Prop := Bk w g 76 x.C.toArray
theorem KB.ext {w w' : World} {g : Nat} {x : Kq} (h : KB w g x) (k : Ex w w') : KB w' g x := Bk.ext h k
theorem Only.kb {g h : Nat} {w w' : World} {x : Kq} (k : Only g w w') (hb : KB w h x) (hne : h ≠ g) : KB w' h x := k.bk hb hne
theorem KB.cells {w : World} {g : Nat} {x : Kq} (h : KB w g x) : w.cell? ⟨g, 0, none⟩ = some (.int .i64 x.op) ∧ w.cell? ⟨g, 1, none⟩ = some (.int .i64 x.id) ∧ w.cell? ⟨g, 2, none⟩ = some (.int .i64 x.pin) ∧ w.cell? ⟨g, 3, none⟩ = some (.int .i64 x.own) ∧ w.cell? ⟨g, 4, none⟩ = some (.int .i64 x.lim) ∧ w.cell? ⟨g, 5, none⟩ = some (.int .i64 x.client) ∧ w.cell? ⟨g, 6, none⟩ = some (.int .u64 x.num) ∧ w.cell? ⟨g, 7, none⟩ = some (.slice x.sec.ad x.sec.l.length x.sec.cap) :=
 ⟨(Bk.cell h 0).trans rfl, (Bk.cell h 1).trans rfl, (Bk.cell h 2).trans rfl, (Bk.cell h 3).trans rfl, (Bk.cell h 4).trans rfl, (Bk.cell h 5).trans rfl, (Bk.cell h 6).trans rfl, (Bk.cell h 7).trans rfl⟩
structure Q0 (q : Qt) : Prop where
 ok : q.Ok
 op1 : 1 ≤ q.op
 op4 : q.op ≤ 4
 c0 : 0 ≤ q.client
 c1 : q.client < 4
 num : q.num ≤ 1099511627776
 pin : q.pin = z16
 own : q.own = z16
 lim : q.lim = 0
 sec : q.sec = nilB
end Go.Proofs.Ytmjfnpmnhehnkaa
