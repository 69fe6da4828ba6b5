/- Vlf, Tj, Ul, Wf -/
import Derived.Test.YtmjfnpmnhehnkaaXaw
namespace Go.Proofs.Ytmjfnpmnhehnkaa
open Go.RowKit
theorem wrong_gen (v : Vc) : (wrongC v).gen = v.gen ∧ (wrongC v).id = v.id := by
 unfold wrongC; split <;> exact ⟨rfl, rfl⟩
theorem gone_right {id : List UInt8} {g : Int} {wi : Bool} (h0 : 1 ≤ g) (h1 : g ≤ 1099511627776) : (goneC id g wi).right = true := by
 unfold Vc.right
 rw [show (goneC id g wi).gone = true from rfl, if_pos rfl, show (goneC id g wi).gen = g from rfl, decide_eq_true (⟨h0, h1⟩ : 1 ≤ g ∧ g ≤ 1099511627776), show goneC (goneC id g wi).id g (goneC id g wi).wiped = goneC id g wi from rfl]
 simp
theorem right_split {v : Vc} (h : v.right = true) (hg : v.gone = false) : 1 ≤ v.gen ∧ v.gen ≤ 1099511627776 ∧ v.wiped = false ∧ 1 ≤ v.lim ∧ v.lim ≤ 32 ∧ 0 ≤ v.used ∧ v.used < v.lim ∧ v.sec.length ≤ 64 := by
 unfold Vc.right at h
 rw [hg, if_neg (by simp)] at h
 simp only [Bool.and_eq_true, decide_eq_true_eq, Bool.not_eq_true'] at h
 obtain ⟨⟨a, b⟩, ⟨⟨⟨c, d, e⟩, f⟩, g⟩, i⟩ := h
 exact ⟨a, b, c, d, e, f, g, i⟩
theorem right_mk {v : Vc} (hg : v.gone = false) (h : 1 ≤ v.gen ∧ v.gen ≤ 1099511627776 ∧ v.wiped = false ∧ 1 ≤ v.lim ∧ v.lim ≤ 32 ∧ 0 ≤ v.used ∧ v.used < v.lim ∧ v.sec.length ≤ 64) : v.right = true := by
 obtain ⟨a, b, c, d, e, f, g, i⟩ := h
 unfold Vc.right
 rw [hg, if_neg (by simp)]
 simp only [Bool.and_eq_true, decide_eq_true_eq, Bool.not_eq_true']
 exact ⟨⟨a, b⟩, ⟨⟨⟨c, d, e⟩, f⟩, g⟩, i⟩
theorem right_gen {v : Vc} (h : v.right = true) : 1 ≤ v.gen ∧ v.gen ≤ 1099511627776 := by
 unfold Vc.right at h
 rw [Bool.and_eq_true, decide_eq_true_eq] at h
 exact h.1
/-- a vault of an ID, or none -/
def Kept (id : List UInt8) (v : Vc) : Prop := v = zeroVc ∨ (v.right = true ∧ v.id = id)
structure Fresh (b : Bool) (w op : Int) : Prop where
 b : b = true
 w : w = 0
 o : op = 1 ∨ op = 3
structure Facts (v : Vc) (q : Qc) (v' : Vc) (r' : Rc) (b : Bool) : Prop where
 id : r'.id = q.id
 num : r'.num = q.num
 client : r'.client = q.client
 gen : r'.gen = v'.gen
 kept : Kept q.id v'
 yes : Fresh b r'.why q.op → v'.gen = v.gen + 1
 no : ¬ Fresh b r'.why q.op → v'.gen = v.gen
theorem qright_parts {q : Qc} (h : q.right = true) (ho : q.op = 1 ∨ q.op = 3) : 1 ≤ q.lim ∧ q.lim ≤ 32 ∧ q.sec.length ≤ 64 := by
 unfold Qc.right at h
 rw [if_pos ho] at h
 simp only [Bool.and_eq_true, decide_eq_true_eq] at h
 exact ⟨h.2.1.1, h.2.1.2, h.2.2⟩
theorem do_facts {v : Vc} {q : Qc} (hq : q.right = true) (hv : Kept q.id v) {v' : Vc} {r' : Rc} {b : Bool} (h : (v', r', b) = doC v q) : Facts v q v' r' b := by
 have hop := (Qc.right_op hq).1
 have hc : ¬ (q.right = false ∨ (v ≠ zeroVc ∧ (v.right = false ∨ v.id ≠ q.id))) := by
  rw [hq]
  rintro (h | ⟨h1, h2⟩)
  ·cases h
  ·rcases hv with hv | ⟨hv1, hv2⟩
   ·exact h1 hv
   ·rcases h2 with h2 | h2
    ·rw [hv1] at h2; cases h2
    ·exact h2 hv2
 unfold doC at h
 rw [if_neg hc] at h
 have hz : v = zeroVc → v.gen = 0 := fun e => by rw [e]; rfl
 by_cases hr : refuseC v (decide (v = zeroVc)) q = 0
 rotate_left
 ·rw [if_neg hr] at h
  simp only [Prod.mk.injEq] at h
  obtain ⟨rfl, rfl, rfl⟩ := h
  exact ⟨rfl, rfl, rfl, rfl, hv, fun hf => absurd hf.b (by simp), fun _ => rfl⟩
 rw [if_pos hr] at h
 have hr0 := hr
 unfold refuseC at hr0
 rcases hop with ho | ho | ho | ho
 ·-- kept anew
  have ha : actC v q (repRt 0 q.id q.client q.num).ct = (freshC v q, { (repRt 0 q.id q.client q.num).ct with left := (freshC v q).left }, true) := by
   unfold actC; rw [if_neg (by omega), if_neg (by omega)]
  rw [ha] at h
  simp only [Prod.mk.injEq] at h
  obtain ⟨rfl, rfl, rfl⟩ := h
  have hg : v.gen ≠ 1099511627776 := by
   intro e
   rw [if_neg (by rintro ⟨_, h1, h2⟩; rw [if_pos ⟨ho, h1, h2⟩] at hr0; cases hr0), if_neg (fun h => h.1 ho), if_neg (fun h => h.1 ho), if_neg (by rintro ⟨h | h, _⟩ <;> omega), if_pos ⟨Or.inl ho, e⟩] at hr0
   cases hr0
  have hp := qright_parts hq (Or.inl ho)
  have hgv : 0 ≤ v.gen ∧ v.gen ≤ 1099511627776 := by
   rcases hv with hv | ⟨hv, _⟩
   ·rw [hz hv]; omega
   ·have := right_gen hv; omega
  exact ⟨rfl, rfl, rfl, rfl, Or.inr ⟨right_mk rfl ⟨by show 1 ≤ v.gen + 1; omega, by show v.gen + 1 ≤ 1099511627776; omega, rfl, hp.1, hp.2.1, Int.le_refl _, by show 0 < q.lim; omega, hp.2.2⟩, rfl⟩, fun _ => rfl, fun hn => absurd ⟨rfl, rfl, Or.inl ho⟩ hn⟩
 ·-- recover
  have h2 := refuse_ok hr ho
  have hvr : v.right = true ∧ v.id = q.id := by
   rcases hv with hv | hv
   ·exact absurd hv (of_decide_eq_false h2.1)
   ·exact hv
  have hs := right_split hvr.1 h2.2
  have ha : actC v q (repRt 0 q.id q.client q.num).ct = guessC v q.pin (repRt 0 q.id q.client q.num).ct := by unfold actC; rw [if_pos ho]
  rw [ha] at h
  have nf : ∀ b w, ¬ Fresh b w q.op := fun b w h => by have := h.o; omega
  unfold guessC at h
  by_cases hpp : q.pin = v.pin
  ·rw [if_pos hpp] at h
   simp only [Prod.mk.injEq] at h
   obtain ⟨rfl, rfl, rfl⟩ := h
   exact ⟨rfl, rfl, rfl, rfl, Or.inr hvr, fun hf => absurd hf (nf _ _), fun _ => rfl⟩
  rw [if_neg hpp] at h
  simp only [Prod.mk.injEq] at h
  obtain ⟨rfl, rfl, rfl⟩ := h
  refine ⟨rfl, rfl, rfl, rfl, Or.inr ⟨?_, (wrong_gen v).2.trans hvr.2⟩, fun hf => absurd hf (nf _ _), fun _ => (wrong_gen v).1⟩
  unfold wrongC
  split
  ·exact gone_right hs.1 hs.2.1
  rename_i hne
  exact right_mk (v := { v with used := v.used + 1 }) h2.2 ⟨hs.1, hs.2.1, hs.2.2.1, hs.2.2.2.1, hs.2.2.2.2.1, by show 0 ≤ v.used + 1; omega, by show v.used + 1 < v.lim; omega, hs.2.2.2.2.2.2.2⟩
 ·-- replaced
  have ha : actC v q (repRt 0 q.id q.client q.num).ct = (freshC v q, { (repRt 0 q.id q.client q.num).ct with left := (freshC v q).left }, true) := by
   unfold actC; rw [if_neg (by omega), if_neg (by omega)]
  rw [ha] at h
  simp only [Prod.mk.injEq] at h
  obtain ⟨rfl, rfl, rfl⟩ := h
  have hg : v.gen ≠ 1099511627776 := by
   intro e
   rw [if_neg (by rintro ⟨h1, _⟩; omega)] at hr0
   split at hr0
   ·cases hr0
   ·split at hr0
    ·cases hr0
    ·split at hr0
     ·cases hr0
     ·rw [if_pos ⟨Or.inr ho, e⟩] at hr0; cases hr0
  have hp := qright_parts hq (Or.inr ho)
  have hgv : 0 ≤ v.gen ∧ v.gen ≤ 1099511627776 := by
   rcases hv with hv | ⟨hv, _⟩
   ·rw [hz hv]; omega
   ·have := right_gen hv; omega
  exact ⟨rfl, rfl, rfl, rfl, Or.inr ⟨right_mk rfl ⟨by show 1 ≤ v.gen + 1; omega, by show v.gen + 1 ≤ 1099511627776; omega, rfl, hp.1, hp.2.1, Int.le_refl _, by show 0 < q.lim; omega, hp.2.2⟩, rfl⟩, fun _ => rfl, fun hn => absurd ⟨rfl, rfl, Or.inr ho⟩ hn⟩
 -- removed
 have ha : actC v q (repRt 0 q.id q.client q.num).ct = (goneC v.id v.gen false, (repRt 0 q.id q.client q.num).ct, true) := by
  unfold actC; rw [if_neg (by omega), if_pos ho]
 rw [ha] at h
 simp only [Prod.mk.injEq] at h
 obtain ⟨rfl, rfl, rfl⟩ := h
 have hvr : v.right = true ∧ v.id = q.id := by
  rcases hv with hv | hv
  ·rw [decide_eq_true hv, if_neg (by rintro ⟨h1, _⟩; omega), if_pos ⟨by omega, rfl⟩] at hr0
   cases hr0
  ·exact hv
 have hg := right_gen hvr.1
 exact ⟨rfl, rfl, rfl, rfl, Or.inr ⟨gone_right hg.1 hg.2, hvr.2⟩, fun hf => by have := hf.o; omega, fun _ => rfl⟩
/-- a row of what is drawn for requests -/
structure Kp.In (ad : Option Addr) (cap : Nat) (l : List Kq) (w : World) : Prop where
 len : l.length ≤ cap
 nil : ad = none → cap = 0
 ins : ∀ (i : Nat) (x : Kq), l[i]? = some x → x.In w
 read : 0 < l.length → ∃ a o, ad = some ⟨a, o, none⟩ ∧ a < w.heap.size ∧ ∀ (i : Nat) (x : Kq), l[i]? = some x → w.rangeAt a (o + i * 8) x.C
theorem Kp.In.ext {ad : Option Addr} {cap : Nat} {l : List Kq} {w w' : World} (h : Kp.In ad cap l w) (k : Ex w w') : Kp.In ad cap l w' :=
 ⟨h.len, h.nil, fun i x hx => (h.ins i x hx).ext k, fun h0 => by
  obtain ⟨a, o, e, hB, hc⟩ := h.read h0
  exact ⟨a, o, e, Nat.lt_of_lt_of_le hB k.sz, fun i x hx j v hv => (Below.cell (p := ⟨a, o + i * 8 + j, none⟩) k hB).trans (hc i x hx j v hv)⟩⟩
theorem Try.sizeKq : (Try.prog.info? 76).map (·.size) = some 8 := by kernel_rfl
/-- what Do does: kept anew; refused; told; a wrong guess; removed -/
inductive Kind (v : Vc) (q : Qc) : Vc → Rc → Bool → Prop
 | fresh (ho : q.op = 1 ∨ q.op = 3) (hg : v.gen < 1099511627776) : Kind v q (freshC v q) ⟨0, q.id, v.gen + 1, (freshC v q).left, [], q.client, q.num⟩ true
 | refused (e : Int) (h0 : e ≠ 0) (h23 : e ≠ 23) : Kind v q v ⟨e, q.id, v.gen, 0, [], q.client, q.num⟩ false
 | told (ho : q.op = 2) (hv : v.right = true) (hg : v.gone = false) (hp : q.pin = v.pin) : Kind v q v ⟨0, q.id, v.gen, v.left, v.sec, q.client, q.num⟩ false
 | wrong (ho : q.op = 2) (hv : v.right = true) (hg : v.gone = false) : Kind v q (wrongC v) ⟨23, q.id, v.gen, (wrongC v).left, [], q.client, q.num⟩ true
 | removed (ho : q.op = 4) (hv : v.right = true) (hg : v.gone = false) : Kind v q (goneC v.id v.gen false) ⟨0, q.id, v.gen, 0, [], q.client, q.num⟩ true
theorem refuse_not {v : Vc} {n : Bool} {q : Qc} : refuseC v n q ≠ 23 := by
 unfold refuseC
 repeat' split
 all_goals decide
theorem do_kind {v : Vc} {q : Qc} (hq : q.right = true) (hv : Kept q.id v) : Kind v q (doC v q).1 (doC v q).2.1 (doC v q).2.2 := by
 have hop := (Qc.right_op hq).1
 have hc : ¬ (q.right = false ∨ (v ≠ zeroVc ∧ (v.right = false ∨ v.id ≠ q.id))) := by
  rw [hq]
  rintro (h | ⟨h1, h2⟩)
  ·cases h
  ·rcases hv with hv | ⟨hv1, hv2⟩
   ·exact h1 hv
   ·rcases h2 with h2 | h2
    ·rw [hv1] at h2; cases h2
    ·exact h2 hv2
 have hgv : 0 ≤ v.gen ∧ v.gen ≤ 1099511627776 := by
  rcases hv with hv | ⟨hv, _⟩
  ·rw [hv]; exact ⟨Int.le_refl _, by show (0 : Int) ≤ _; decide⟩
  ·have := right_gen hv; omega
 unfold doC
 rw [if_neg hc]
 by_cases hr : refuseC v (decide (v = zeroVc)) q = 0
 rotate_left
 ·rw [if_neg hr]
  exact .refused _ hr refuse_not
 rw [if_pos hr]
 have hr0 := hr
 unfold refuseC at hr0
 have hnew : (q.op = 1 ∨ q.op = 3) → v.gen ≠ 1099511627776 := by
  intro ho e
  split at hr0
  ·cases hr0
  ·split at hr0
   ·cases hr0
   ·split at hr0
    ·cases hr0
    ·split at hr0
     ·cases hr0
     ·rw [if_pos ⟨ho, e⟩] at hr0; cases hr0
 have hold : q.op ≠ 1 → v ≠ zeroVc ∧ v.gone = false := by
  intro ho
  rw [if_neg (fun h => ho h.1)] at hr0
  split at hr0
  ·cases hr0
  ·rename_i h1
   split at hr0
   ·cases hr0
   ·rename_i h2
    refine ⟨fun e => h1 ⟨ho, decide_eq_true e⟩, ?_⟩
    cases hg : v.gone
    ·rfl
    ·exact absurd ⟨ho, hg⟩ h2
 have hvr : q.op ≠ 1 → v.right = true := fun ho => hv.elim (fun e => absurd e (hold ho).1) (fun h => h.1)
 have fr : (q.op = 1 ∨ q.op = 3) → actC v q (repRt 0 q.id q.client q.num).ct = (freshC v q, { (repRt 0 q.id q.client q.num).ct with left := (freshC v q).left }, true) := fun ho => by
  unfold actC; rw [if_neg (by omega), if_neg (by omega)]
 rcases hop with ho | ho | ho | ho
 ·rw [fr (Or.inl ho)]
  have := hnew (Or.inl ho)
  exact .fresh (Or.inl ho) (by omega)
 ·have ha : actC v q (repRt 0 q.id q.client q.num).ct = guessC v q.pin (repRt 0 q.id q.client q.num).ct := by unfold actC; rw [if_pos ho]
  rw [ha]
  unfold guessC
  by_cases hpp : q.pin = v.pin
  ·rw [if_pos hpp]
   exact .told ho (hvr (by omega)) (hold (by omega)).2 hpp
  rw [if_neg hpp]
  have e := (wrong_gen v).1
  have k := Kind.wrong (v := v) (q := q) ho (hvr (by omega)) (hold (by omega)).2
  show Kind v q (wrongC v) ⟨23, q.id, (wrongC v).gen, (wrongC v).left, [], q.client, q.num⟩ true
  rw [e]; exact k
 ·rw [fr (Or.inr ho)]
  have := hnew (Or.inr ho)
  exact .fresh (Or.inr ho) (by omega)
 have ha : actC v q (repRt 0 q.id q.client q.num).ct = (goneC v.id v.gen false, (repRt 0 q.id q.client q.num).ct, true) := by
  unfold actC; rw [if_neg (by omega), if_pos ho]
 rw [ha]
 exact .removed ho (hvr (by omega)) (hold (by omega)).2
theorem Kept.gen {id : List UInt8} {v : Vc} (h : Kept id v) : 0 ≤ v.gen ∧ v.gen ≤ 1099511627776 := by
 rcases h with h | ⟨h, _⟩
 ·rw [h]; exact ⟨Int.le_refl _, by show (0 : Int) ≤ _; decide⟩
 have := right_gen h; omega
theorem wrong_left {v : Vc} (hv : v.right = true) (hg : v.gone = false) : (wrongC v).left = v.lim - (v.used + 1) := by
 have hs := right_split hv hg
 unfold wrongC
 by_cases e : v.used + 1 = v.lim
 ·rw [if_pos e]
  unfold Vc.left
  rw [if_pos (show (goneC v.id v.gen true).gone = true from rfl)]; omega
 rw [if_neg e]
 unfold Vc.left
 rw [if_neg (by show ¬ v.gone = true; rw [hg]; simp), if_pos (right_mk (v := { v with used := v.used + 1 }) hg ⟨hs.1, hs.2.1, hs.2.2.1, hs.2.2.2.1, hs.2.2.2.2.1, by show 0 ≤ v.used + 1; omega, by show v.used + 1 < v.lim; omega, hs.2.2.2.2.2.2.2⟩)]
end Go.Proofs.Ytmjfnpmnhehnkaa
namespace Go.Proofs.Ytmjfnpmnhehnkaa
open Go.RowKit
end Go.Proofs.Ytmjfnpmnhehnkaa
namespace Go.Proofs.Ytmjfnpmnhehnkaa
open Go.RowKit
theorem VRow.other {w w' : World} {D' B : Nat} {v rv' : Value} {xs vs' : List Vt} (h : VRow w B v xs) (h' : TB w D' rv' vs') (k : Tc D' rv'.ownBlock w w') (hr : Djn v rv') : VRow w' B v xs := by
 have hrow := h'.row.blk
 have keep : ∀ x, TVN w x → TVN w' x := fun x hx => by
  rcases hrow with e | ⟨gb, e, _, _, hb⟩
  ·exact hx.tc (gb := 0) k h'.blk (Or.inl e)
  ·exact hx.tc k h'.blk (Or.inr ⟨e, hb⟩)
 refine ⟨⟨h.row.1, h.row.2.imp id fun ⟨g, cap, cur, hv, hB, hg, hrest⟩ => ⟨g, cap, cur, hv, hB, ?_, hrest⟩⟩, fun i x hx => keep x (h.ins i x hx)⟩
 exact (show Bk w' g 36 cur from k.bk hg (fun e => by subst e; exact h'.D_ne hg rfl) (fun e => hr g (by rw [hv]; rfl) e.symm))
theorem VRow.inn3 {w : World} {B : Nat} {v : Value} {xs : List Vt} (h : VRow w B v xs) : ∃ ad cap, v = .slice ad xs.length cap ∧ Vp.In ad cap xs w ∧ cap ≤ 9223372036854775807 := by
 obtain ⟨ad, cap, e, hin⟩ := h.inn
 obtain ⟨ad2, cap2, e2, _, _, hc, _⟩ := own_rd h.row
 rw [e] at e2; cases e2
 exact ⟨ad, cap, e, hin, hc⟩
end Go.Proofs.Ytmjfnpmnhehnkaa
namespace Go.Proofs.Ytmjfnpmnhehnkaa
open Go.RowKit
theorem ld_vid9 {o : Oper} {a : Act} {w : World} {K : Act → World → Prop} {Q : Exit → Act → World → Prop} (y : Operand) (g off : Nat) (x : Vt) (hx : x.Ok) (ho : o.op = .load 32 y) (ha : a.eval y = .pointer (some ⟨g, off, none⟩)) (h : w.rangeAt g off x.C) (hk : K (a.put o.dst (digV x.id)) w) : o.wp Try.prog a w K Q := by
 obtain ⟨dd, hd⟩ : ∃ d, Try.prog.underlying 32 = some d ∧ d.isRow = true := ⟨_, Try.underlying32, rfl⟩
 refine wp_load_mid 32 y ho g off ha (Lib.byteCells x.id) dd (fun j u hu => h j u ?_) hd.1 hd.2 (by rw [Try.sizeId, byteCells_len, hx.idN]) hk
 have hj : j < (Lib.byteCells x.id).length := (List.getElem?_eq_some_iff.1 hu).1
 unfold Vt.C
 simp only [List.append_assoc]
 rw [List.getElem?_append_left hj]; exact hu
/-- bytes that lie in old memory, or in a block of bytes -/
def SK (w0 w : World) (p : Pt) : Prop := p.In w w0.heap.size ∨ PN w 0 p
theorem SK.inn {w0 w : World} {p : Pt} (h : SK w0 w p) (hs : w0.heap.size ≤ w.heap.size) : p.In w w.heap.size := by
 rcases h with h | h
 ·exact h.more hs
 exact h.1
theorem SK.ext {w0 w w' : World} {p : Pt} (h : SK w0 w p) (hs : w0.heap.size ≤ w.heap.size) (k : Ex w w') : SK w0 w' p := by
 rcases h with h | h
 ·exact Or.inl (h.keep (k.mono hs))
 exact Or.inr (h.ext k)
theorem SK.kt {S : List Nat} {w0 w w' : World} {p : Pt} (h : SK w0 w p) (k : Kt S w0.heap.size w w') (hu : 5 ∉ S) : SK w0 w' p := by
 rcases h with h | h
 ·exact Or.inl (h.keep k.below)
 exact Or.inr (h.kt k hu)
theorem SK.tc {w0 w w' : World} {p : Pt} {D : Nat} {rv : Value} {vs : List Vt} (h : SK w0 w p) (k : Tc D rv.ownBlock w w') (ht : TB w D rv vs) (hs : w0.heap.size ≤ w.heap.size) (lo : w0.heap.size ≤ D) : SK w0 w' p := by
 rcases h with h | h
 ·refine Or.inl (h.keep ⟨k.os, k.tape, k.output, k.size, fun i hi => k.block i (by omega) (by omega) (fun e => ?_)⟩)
  have := (ht.row.row.lt i e.symm).1
  omega
 exact Or.inr (h.tc9 k ht)
structure PX (w0 w : World) (x : Vt) : Prop where
 ok : x.Ok
 sec : SK w0 w x.sec
 len : x.sec.l.length ≤ 64
/-- the document's map: block P has a row of its own -/
structure PB (w0 w : World) (P : Nat) (rv : Value) (xs : List Vt) : Prop where
 blk : Bk w P 134 #[rv]
 row : w.ownsRow w0.heap.size 36 42 rv xs.length (xs.flatMap Vt.C)
 ins : ∀ (i : Nat) (x : Vt), xs[i]? = some x → PX w0 w x
 lo : w0.heap.size ≤ P
 sz : w0.heap.size ≤ w.heap.size
theorem PB.ext {w0 w w' : World} {P : Nat} {rv : Value} {xs : List Vt} (h : PB w0 w P rv xs) (k : Ex w w') : PB w0 w' P rv xs :=
 ⟨h.blk.ext k, k.row h.row, fun i x hx => ⟨(h.ins i x hx).ok, (h.ins i x hx).sec.ext h.sz k, (h.ins i x hx).len⟩, h.lo, Nat.le_trans h.sz (Below.size k)⟩
theorem PB.inn {w0 w : World} {P : Nat} {rv : Value} {xs : List Vt} (h : PB w0 w P rv xs) : ∃ ad cap, rv = .slice ad xs.length cap ∧ Vp.In ad cap xs w ∧ cap ≤ 9223372036854775807 := by
 have hok : ∀ (i : Nat) (x : Vt), xs[i]? = some x → x.Ok := fun i x hx => (h.ins i x hx).ok
 obtain ⟨ad2, cap2, e2, _, _, hc9, _⟩ := own_rd h.row
 obtain ⟨_, ⟨h1, ⟨hv, h0⟩ | ⟨g, cap, cur, rfl, hb, hh, hc, hm, hs, ht⟩⟩, _⟩ := h
 ·exact ⟨none, 0, by rw [h0]; exact hv, ⟨by rw [h0]; exact Nat.le_refl 0, fun _ => rfl, hok, fun h => by omega⟩, by decide⟩
 have hc9 : cap ≤ 9223372036854775807 := by cases e2; exact hc9
 refine ⟨some ⟨g, 0, none⟩, cap, rfl, ⟨hc, (fun h => by cases h), hok, fun _ => ⟨g, 0, rfl, (show Bk w g 36 cur from hh).lt, fun i x hx j u hu => ?_⟩⟩, hc9⟩
 have hil : i < xs.length := (List.getElem?_eq_some_iff.1 hx).1
 have hj : j < 42 := by have := (List.getElem?_eq_some_iff.1 hu).1; rw [Vt.len (hok i x hx)] at this; exact this
 have h3 := vflat_at xs hok i j x hx hj
 rw [← ht, hu, List.getElem?_take, if_pos (by omega)] at h3
 rw [(show Bk w g 36 cur from hh).cell, Nat.zero_add, ← Array.getElem?_toList]
 exact h3
/-- what get tells -/
def GetP (xs : List Vt) (id : List UInt8) (x : Vt) (k : Int) : Prop := (k = -1 ∧ x = zeroVt ∧ ∀ y ∈ xs, y.id ≠ id) ∨ ∃ j : Nat, k = (j : Int) ∧ xs[j]? = some x ∧ x.id = id
def cntS (xs : List Vt) (id : List UInt8) : Nat := xs.countP (fun y => decide (Sm.shV y.id = Sm.shV id))
def PGetPost (xs : List Vt) (id : List UInt8) (w : World) (e : Ending) (w' : World) : Prop := ∃ (x : Vt) (k : Int), e = .returned (.tuple #[x.V, .int .i64 k, .int .i64 (cntS xs id)]) ∧ GetP xs id x k ∧ Ex w w'
theorem cnt_step {xs : List Vt} {id : List UInt8} {i : Nat} {x : Vt} (hx : xs[i]? = some x) : cntS (xs.take (i + 1)) id = if Sm.shV x.id = Sm.shV id then cntS (xs.take i) id + 1 else cntS (xs.take i) id := by
 unfold cntS
 rw [List.take_add_one, hx, List.countP_append]
 by_cases h : Sm.shV x.id = Sm.shV id
 ·rw [if_pos h]; simp [h]
 rw [if_neg h]; simp [h]
end Go.Proofs.Ytmjfnpmnhehnkaa
