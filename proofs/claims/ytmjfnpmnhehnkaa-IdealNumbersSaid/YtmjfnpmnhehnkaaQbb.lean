/- Vlf, Tj, Ul -/
import Derived.Test.YtmjfnpmnhehnkaaQba
namespace Go.Proofs.Ytmjfnpmnhehnkaa
open Go.RowKit
theorem wrong_gen (v : Vc) : (wrongC v).gen = v.gen ∧ (wrongC v).id = v.id := by
 unfold wrongC; split <;> exact ⟨rfl, rfl⟩
theorem gone_right {id : List UInt8} {g : Int} {wi : Bool} (h0 : 1 ≤ g) (h1 : g ≤ 1099511627776) : (goneC id g wi).right = true := by
 unfold Vc.right
 rw [show (goneC id g wi).gone = true from rfl, if_pos rfl, show (goneC id g wi).gen = g from rfl, decide_eq_true (⟨h0, h1⟩ : 1 ≤ g ∧ g ≤ 1099511627776), show goneC (goneC id g wi).id g (goneC id g wi).wiped = goneC id g wi from rfl]
 simp
theorem right_split {v : Vc} (h : v.right = true) (hg : v.gone = false) : 1 ≤ v.gen ∧ v.gen ≤ 1099511627776 ∧ v.wiped = false ∧ 1 ≤ v.lim ∧ v.lim ≤ 32 ∧ 0 ≤ v.used ∧ v.used < v.lim ∧ v.sec.length ≤ 64 := by
 unfold Vc.right at h
 rw [hg, if_neg (by simp)] at h
 simp only [Bool.and_eq_true, decide_eq_true_eq, Bool.not_eq_true'] at h
 obtain ⟨⟨a, b⟩, ⟨⟨⟨c, d, e⟩, f⟩, g⟩, i⟩ := h
 exact ⟨a, b, c, d, e, f, g, i⟩
theorem right_mk {v : Vc} (hg : v.gone = false) (h : 1 ≤ v.gen ∧ v.gen ≤ 1099511627776 ∧ v.wiped = false ∧ 1 ≤ v.lim ∧ v.lim ≤ 32 ∧ 0 ≤ v.used ∧ v.used < v.lim ∧ v.sec.length ≤ 64) : v.right = true := by
 obtain ⟨a, b, c, d, e, f, g, i⟩ := h
 unfold Vc.right
 rw [hg, if_neg (by simp)]
 simp only [Bool.and_eq_true, decide_eq_true_eq, Bool.not_eq_true']
 exact ⟨⟨a, b⟩, ⟨⟨⟨c, d, e⟩, f⟩, g⟩, i⟩
theorem right_gen {v : Vc} (h : v.right = true) : 1 ≤ v.gen ∧ v.gen ≤ 1099511627776 := by
 unfold Vc.right at h
 rw [Bool.and_eq_true, decide_eq_true_eq] at h
 exact h.1
/-- a vault of an ID, or none -/
def Kept (id : List UInt8) (v : Vc) : Prop := v = zeroVc ∨ (v.right = true ∧ v.id = id)
structure Fresh (b : Bool) (w op : Int) : Prop where
 b : b = true
 w : w = 0
 o : op = 1 ∨ op = 3
structure Facts (v : Vc) (q : Qc) (v' : Vc) (r' : Rc) (b : Bool) : Prop where
 id : r'.id = q.id
 num : r'.num = q.num
 client : r'.client = q.client
 gen : r'.gen = v'.gen
 kept : Kept q.id v'
 yes : Fresh b r'.why q.op → v'.gen = v.gen + 1
 no : ¬ Fresh b r'.why q.op → v'.gen = v.gen
theorem qright_parts {q : Qc} (h : q.right = true) (ho : q.op = 1 ∨ q.op = 3) : 1 ≤ q.lim ∧ q.lim ≤ 32 ∧ q.sec.length ≤ 64 := by
 unfold Qc.right at h
 rw [if_pos ho] at h
 simp only [Bool.and_eq_true, decide_eq_true_eq] at h
 exact ⟨h.2.1.1, h.2.1.2, h.2.2⟩
theorem do_facts {v : Vc} {q : Qc} (hq : q.right = true) (hv : Kept q.id v) {v' : Vc} {r' : Rc} {b : Bool} (h : (v', r', b) = doC v q) : Facts v q v' r' b := by
 have hop := (Qc.right_op hq).1
 have hc : ¬ (q.right = false ∨ (v ≠ zeroVc ∧ (v.right = false ∨ v.id ≠ q.id))) := by
  rw [hq]
  rintro (h | ⟨h1, h2⟩)
  ·cases h
  rcases hv with hv | ⟨hv1, hv2⟩
  ·exact h1 hv
  rcases h2 with h2 | h2
  ·rw [hv1] at h2; cases h2
  exact h2 hv2
 unfold doC at h
 rw [if_neg hc] at h
 have hz : v = zeroVc → v.gen = 0 := fun e => by rw [e]; rfl
 by_cases hr : refuseC v (decide (v = zeroVc)) q = 0
 ·rw [if_pos hr] at h
  have hr0 := hr
  unfold refuseC at hr0
  rcases hop with ho | ho | ho | ho
  ·-- kept anew
   have ha : actC v q (repRt 0 q.id q.client q.num).ct = (freshC v q, { (repRt 0 q.id q.client q.num).ct with left := (freshC v q).left }, true) := by
    unfold actC; rw [if_neg (by omega), if_neg (by omega)]
   rw [ha] at h
   simp only [Prod.mk.injEq] at h
   obtain ⟨rfl, rfl, rfl⟩ := h
   have hg : v.gen ≠ 1099511627776 := by
    intro e
    rw [if_neg (by rintro ⟨_, h1, h2⟩; rw [if_pos ⟨ho, h1, h2⟩] at hr0; cases hr0), if_neg (fun h => h.1 ho), if_neg (fun h => h.1 ho), if_neg (by rintro ⟨h | h, _⟩ <;> omega), if_pos ⟨Or.inl ho, e⟩] at hr0
    cases hr0
   have hp := qright_parts hq (Or.inl ho)
   have hgv : 0 ≤ v.gen ∧ v.gen ≤ 1099511627776 := by
    rcases hv with hv | ⟨hv, _⟩
    ·rw [hz hv]; omega
    have := right_gen hv; omega
   exact ⟨rfl, rfl, rfl, rfl, Or.inr ⟨right_mk rfl ⟨by show 1 ≤ v.gen + 1; omega, by show v.gen + 1 ≤ 1099511627776; omega, rfl, hp.1, hp.2.1, Int.le_refl _, by show 0 < q.lim; omega, hp.2.2⟩, rfl⟩, fun _ => rfl, fun hn => absurd ⟨rfl, rfl, Or.inl ho⟩ hn⟩
  ·-- recover
   have h2 := refuse_ok hr ho
   have hvr : v.right = true ∧ v.id = q.id := by
    rcases hv with hv | hv
    ·exact absurd hv (of_decide_eq_false h2.1)
    exact hv
   have hs := right_split hvr.1 h2.2
   have ha : actC v q (repRt 0 q.id q.client q.num).ct = guessC v q.pin (repRt 0 q.id q.client q.num).ct := by unfold actC; rw [if_pos ho]
   rw [ha] at h
   have nf : ∀ b w, ¬ Fresh b w q.op := fun b w h => by have := h.o; omega
   unfold guessC at h
   by_cases hpp : q.pin = v.pin
   ·rw [if_pos hpp] at h
    simp only [Prod.mk.injEq] at h
    obtain ⟨rfl, rfl, rfl⟩ := h
    exact ⟨rfl, rfl, rfl, rfl, Or.inr hvr, fun hf => absurd hf (nf _ _), fun _ => rfl⟩
   rw [if_neg hpp] at h
   simp only [Prod.mk.injEq] at h
   obtain ⟨rfl, rfl, rfl⟩ := h
   refine ⟨rfl, rfl, rfl, rfl, Or.inr ⟨?_, (wrong_gen v).2.trans hvr.2⟩, fun hf => absurd hf (nf _ _), fun _ => (wrong_gen v).1⟩
   unfold wrongC
   split
   ·exact gone_right hs.1 hs.2.1
   rename_i hne
   exact right_mk (v := { v with used := v.used + 1 }) h2.2 ⟨hs.1, hs.2.1, hs.2.2.1, hs.2.2.2.1, hs.2.2.2.2.1, by show 0 ≤ v.used + 1; omega, by show v.used + 1 < v.lim; omega, hs.2.2.2.2.2.2.2⟩
  ·-- replaced
   have ha : actC v q (repRt 0 q.id q.client q.num).ct = (freshC v q, { (repRt 0 q.id q.client q.num).ct with left := (freshC v q).left }, true) := by
    unfold actC; rw [if_neg (by omega), if_neg (by omega)]
   rw [ha] at h
   simp only [Prod.mk.injEq] at h
   obtain ⟨rfl, rfl, rfl⟩ := h
   have hg : v.gen ≠ 1099511627776 := by
    intro e
    rw [if_neg (by rintro ⟨h1, _⟩; omega)] at hr0
    split at hr0
    ·cases hr0
    split at hr0
    ·cases hr0
    split at hr0
    ·cases hr0
    rw [if_pos ⟨Or.inr ho, e⟩] at hr0; cases hr0
   have hp := qright_parts hq (Or.inr ho)
   have hgv : 0 ≤ v.gen ∧ v.gen ≤ 1099511627776 := by
    rcases hv with hv | ⟨hv, _⟩
    ·rw [hz hv]; omega
    have := right_gen hv; omega
   exact ⟨rfl, rfl, rfl, rfl, Or.inr ⟨right_mk rfl ⟨by show 1 ≤ v.gen + 1; omega, by show v.gen + 1 ≤ 1099511627776; omega, rfl, hp.1, hp.2.1, Int.le_refl _, by show 0 < q.lim; omega, hp.2.2⟩, rfl⟩, fun _ => rfl, fun hn => absurd ⟨rfl, rfl, Or.inr ho⟩ hn⟩
  -- removed
  have ha : actC v q (repRt 0 q.id q.client q.num).ct = (goneC v.id v.gen false, (repRt 0 q.id q.client q.num).ct, true) := by
   unfold actC; rw [if_neg (by omega), if_pos ho]
  rw [ha] at h
  simp only [Prod.mk.injEq] at h
  obtain ⟨rfl, rfl, rfl⟩ := h
  have hvr : v.right = true ∧ v.id = q.id := by
   rcases hv with hv | hv
   ·rw [decide_eq_true hv, if_neg (by rintro ⟨h1, _⟩; omega), if_pos ⟨by omega, rfl⟩] at hr0
    cases hr0
   exact hv
  have hg := right_gen hvr.1
  exact ⟨rfl, rfl, rfl, rfl, Or.inr ⟨gone_right hg.1 hg.2, hvr.2⟩, fun hf => by have := hf.o; omega, fun _ => rfl⟩
 rw [if_neg hr] at h
 simp only [Prod.mk.injEq] at h
 obtain ⟨rfl, rfl, rfl⟩ := h
 exact ⟨rfl, rfl, rfl, rfl, hv, fun hf => absurd hf.b (by simp), fun _ => rfl⟩
/-- a row of what is drawn for requests -/
structure Kp.In (ad : Option Addr) (cap : Nat) (l : List Kq) (w : World) : Prop where
 len : l.length ≤ cap
 nil : ad = none → cap = 0
 ins : ∀ (i : Nat) (x : Kq), l[i]? = some x → x.In w
 read : 0 < l.length → ∃ a o, ad = some ⟨a, o, none⟩ ∧ a < w.heap.size ∧ ∀ (i : Nat) (x : Kq), l[i]? = some x → w.rangeAt a (o + i * 8) x.C
theorem Kp.In.ext {ad : Option Addr} {cap : Nat} {l : List Kq} {w w' : World} (h : Kp.In ad cap l w) (k : Ex w w') : Kp.In ad cap l w' :=
 ⟨h.len, h.nil, fun i x hx => (h.ins i x hx).ext k, fun h0 => by
  obtain ⟨a, o, e, hB, hc⟩ := h.read h0
  exact ⟨a, o, e, Nat.lt_of_lt_of_le hB k.sz, fun i x hx j v hv => (Below.cell (p := ⟨a, o + i * 8 + j, none⟩) k hB).trans (hc i x hx j v hv)⟩⟩
theorem Try.sizeKq : (Try.prog.info? 76).map (·.size) = some 8 := by kernel_rfl
theorem ld_k {o : Oper} {a : Act} {w : World} {K : Act → World → Prop} {Q : Exit → Act → World → Prop} (y : Operand) (g off : Nat) (x : Kq) (ho : o.op = .load 76 y) (ha : a.eval y = .pointer (some ⟨g, off, none⟩)) (h : w.rangeAt g off x.C) (hk : K (a.put o.dst x.V) w) : o.wp Try.prog a w K Q := by
 obtain ⟨dd, hd⟩ : ∃ d, Try.prog.underlying 76 = some d ∧ d.isRow = true := ⟨_, Try.underlying76, rfl⟩
 exact wp_load_mid 76 y ho g off ha x.C dd h hd.1 hd.2 (by rw [Try.sizeKq]; rfl) hk
/-- what Do does: kept anew; refused; told; a wrong guess; removed -/
inductive Kind (v : Vc) (q : Qc) : Vc → Rc → Bool → Prop
 | fresh (ho : q.op = 1 ∨ q.op = 3) (hg : v.gen < 1099511627776) : Kind v q (freshC v q) ⟨0, q.id, v.gen + 1, (freshC v q).left, [], q.client, q.num⟩ true
 | refused (e : Int) (h0 : e ≠ 0) (h23 : e ≠ 23) : Kind v q v ⟨e, q.id, v.gen, 0, [], q.client, q.num⟩ false
 | told (ho : q.op = 2) (hv : v.right = true) (hg : v.gone = false) (hp : q.pin = v.pin) : Kind v q v ⟨0, q.id, v.gen, v.left, v.sec, q.client, q.num⟩ false
 | wrong (ho : q.op = 2) (hv : v.right = true) (hg : v.gone = false) : Kind v q (wrongC v) ⟨23, q.id, v.gen, (wrongC v).left, [], q.client, q.num⟩ true
 | removed (ho : q.op = 4) (hv : v.right = true) (hg : v.gone = false) : Kind v q (goneC v.id v.gen false) ⟨0, q.id, v.gen, 0, [], q.client, q.num⟩ true
theorem refuse_not {v : Vc} {n : Bool} {q : Qc} : refuseC v n q ≠ 23 := by
 unfold refuseC
 repeat' split
 all_goals decide
theorem do_kind {v : Vc} {q : Qc} (hq : q.right = true) (hv : Kept q.id v) : Kind v q (doC v q).1 (doC v q).2.1 (doC v q).2.2 := by
 have hop := (Qc.right_op hq).1
 have hc : ¬ (q.right = false ∨ (v ≠ zeroVc ∧ (v.right = false ∨ v.id ≠ q.id))) := by
  rw [hq]
  rintro (h | ⟨h1, h2⟩)
  ·cases h
  rcases hv with hv | ⟨hv1, hv2⟩
  ·exact h1 hv
  rcases h2 with h2 | h2
  ·rw [hv1] at h2; cases h2
  exact h2 hv2
 have hgv : 0 ≤ v.gen ∧ v.gen ≤ 1099511627776 := by
  rcases hv with hv | ⟨hv, _⟩
  ·rw [hv]; exact ⟨Int.le_refl _, by show (0 : Int) ≤ _; decide⟩
  have := right_gen hv; omega
 unfold doC
 rw [if_neg hc]
 by_cases hr : refuseC v (decide (v = zeroVc)) q = 0
 ·rw [if_pos hr]
  have hr0 := hr
  unfold refuseC at hr0
  have hnew : (q.op = 1 ∨ q.op = 3) → v.gen ≠ 1099511627776 := by
   intro ho e
   split at hr0
   ·cases hr0
   split at hr0
   ·cases hr0
   split at hr0
   ·cases hr0
   split at hr0
   ·cases hr0
   rw [if_pos ⟨ho, e⟩] at hr0; cases hr0
  have hold : q.op ≠ 1 → v ≠ zeroVc ∧ v.gone = false := by
   intro ho
   rw [if_neg (fun h => ho h.1)] at hr0
   split at hr0
   ·cases hr0
   rename_i h1
   split at hr0
   ·cases hr0
   rename_i h2
   refine ⟨fun e => h1 ⟨ho, decide_eq_true e⟩, ?_⟩
   cases hg : v.gone
   ·rfl
   exact absurd ⟨ho, hg⟩ h2
  have hvr : q.op ≠ 1 → v.right = true := fun ho => hv.elim (fun e => absurd e (hold ho).1) (fun h => h.1)
  have fr : (q.op = 1 ∨ q.op = 3) → actC v q (repRt 0 q.id q.client q.num).ct = (freshC v q, { (repRt 0 q.id q.client q.num).ct with left := (freshC v q).left }, true) := fun ho => by
   unfold actC; rw [if_neg (by omega), if_neg (by omega)]
  rcases hop with ho | ho | ho | ho
  ·rw [fr (Or.inl ho)]
   have := hnew (Or.inl ho)
   exact .fresh (Or.inl ho) (by omega)
  ·have ha : actC v q (repRt 0 q.id q.client q.num).ct = guessC v q.pin (repRt 0 q.id q.client q.num).ct := by unfold actC; rw [if_pos ho]
   rw [ha]
   unfold guessC
   by_cases hpp : q.pin = v.pin
   ·rw [if_pos hpp]
    exact .told ho (hvr (by omega)) (hold (by omega)).2 hpp
   rw [if_neg hpp]
   have e := (wrong_gen v).1
   have k := Kind.wrong (v := v) (q := q) ho (hvr (by omega)) (hold (by omega)).2
   show Kind v q (wrongC v) ⟨23, q.id, (wrongC v).gen, (wrongC v).left, [], q.client, q.num⟩ true
   rw [e]; exact k
  ·rw [fr (Or.inr ho)]
   have := hnew (Or.inr ho)
   exact .fresh (Or.inr ho) (by omega)
  have ha : actC v q (repRt 0 q.id q.client q.num).ct = (goneC v.id v.gen false, (repRt 0 q.id q.client q.num).ct, true) := by
   unfold actC; rw [if_neg (by omega), if_pos ho]
  rw [ha]
  exact .removed ho (hvr (by omega)) (hold (by omega)).2
 rw [if_neg hr]
 exact .refused _ hr refuse_not
theorem Kept.gen {id : List UInt8} {v : Vc} (h : Kept id v) : 0 ≤ v.gen ∧ v.gen ≤ 1099511627776 := by
 rcases h with h | ⟨h, _⟩
 ·rw [h]; exact ⟨Int.le_refl _, by show (0 : Int) ≤ _; decide⟩
 have := right_gen h; omega
theorem wrong_left {v : Vc} (hv : v.right = true) (hg : v.gone = false) : (wrongC v).left = v.lim - (v.used + 1) := by
 have hs := right_split hv hg
 unfold wrongC
 by_cases e : v.used + 1 = v.lim
 ·rw [if_pos e]
  unfold Vc.left
  rw [if_pos (show (goneC v.id v.gen true).gone = true from rfl)]; omega
 rw [if_neg e]
 unfold Vc.left
 rw [if_neg (by show ¬ v.gone = true; rw [hg]; simp), if_pos (right_mk (v := { v with used := v.used + 1 }) hg ⟨hs.1, hs.2.1, hs.2.2.1, hs.2.2.2.1, hs.2.2.2.2.1, by show 0 ≤ v.used + 1; omega, by show v.used + 1 < v.lim; omega, hs.2.2.2.2.2.2.2⟩)]
end Go.Proofs.Ytmjfnpmnhehnkaa
namespace Go.Proofs.Ytmjfnpmnhehnkaa
open Go.RowKit
theorem ct_take_succ {xs ys : List Vt} {k : Nat} {x y : Vt} (h : (xs.take k).map Vt.ct = (ys.take k).map Vt.ct) (hx : xs[k]? = some x) (hy : ys[k]? = some y) (e : x.ct = y.ct) : (xs.take (k + 1)).map Vt.ct = (ys.take (k + 1)).map Vt.ct := by
 rw [List.take_add_one, List.take_add_one, List.map_append, List.map_append, h, hx, hy]
 simp [e]
theorem ct_ne {xs ys : List Vt} {k : Nat} {x y : Vt} (hx : xs[k]? = some x) (hy : ys[k]? = some y) (e : x.ct ≠ y.ct) : xs.map Vt.ct ≠ ys.map Vt.ct := fun h => e (by
 have h1 : (xs.map Vt.ct)[k]? = (ys.map Vt.ct)[k]? := by rw [h]
 rw [List.getElem?_map, List.getElem?_map, hx, hy] at h1
 simpa using h1)
set_option maxHeartbeats 4000000 in
set_option maxRecDepth 100000 in
theorem rvs_any (ad1 ad2 : Option Addr) (cap1 cap2 : Nat) (xs ys : List Vt) (c1 : cap1 ≤ 9223372036854775807) (c2 : cap2 ≤ 9223372036854775807) (w : World) (h1 : Vp.In ad1 cap1 xs w) (h2 : Vp.In ad2 cap2 ys w) (v1 : ∀ (i : Nat) (x : Vt), xs[i]? = some x → VI w x) (v2 : ∀ (i : Nat) (x : Vt), ys[i]? = some x → VI w x) :
  Calls Try.prog 30 #[.slice ad1 xs.length cap1, .slice ad2 ys.length cap2] w fun e w' => e = .returned (.bool (decide (xs.map Vt.ct = ys.map Vt.ct))) ∧ Ex w w' := by
 have H1 := Lib.hid h1
 have H2 := Lib.hid h2
 have V1 := Lib.hid v1
 have V2 := Lib.hid v2
 obtain ⟨n, hn⟩ : ∃ n, n = xs.length := ⟨_, rfl⟩
 obtain ⟨m, hm⟩ : ∃ m, m = ys.length := ⟨_, rfl⟩
 have hnb : n ≤ 9223372036854775807 := by rw [hn]; exact Nat.le_trans h1.len c1
 have hmb : m ≤ 9223372036854775807 := by rw [hm]; exact Nat.le_trans h2.len c2
 rw [← hn, ← hm]
 have HN := Lib.hid hn
 have HM := Lib.hid hm
 obtain ⟨br, hbr⟩ : ∃ b, b = decide (xs.map Vt.ct = ys.map Vt.ct) := ⟨_, rfl⟩
 rw [← hbr]
 have HBR := Lib.hid hbr
 clear h1 h2 v1 v2 hn hm hbr c1 c2
 by_cases hnm : n = m
 ·obtain rfl := hnm
  go_enter Try.func30, Try.ntmps30
  go_wp2_with (first | ((with_reducible refine so4 [36, 1000+36, 32, 1000+32, 4000+36] ?_ ?_); (focus rfl)) | (with_reducible refine stop_bs (t := 37) ?_) | (with_reducible refine stop_app ?_))
  go_loopw [5] (fun i wr => ∃ k : Nat, k ≤ n ∧ i = .int .i64 k ∧ Hid ((xs.take k).map Vt.ct = (ys.take k).map Vt.ct) ∧ Hid (Ex w wr)) (fun i _ => n - (intOf i).toNat)
  case atStart => exact ⟨0, by omega, rfl, Lib.hid rfl, Lib.hid (Ex.refl _)⟩
  case round =>
   obtain ⟨k, hk, rfl, HG, BW⟩ := hrel
   by_cases hlt : k < n
   ·have q0 : (0 : Int) ≤ (k : Int) := by omega
    have q1 : (k : Int) < (n : Int) := by omega
    obtain ⟨x, hx⟩ : ∃ z, xs[k]? = some z := ⟨_, List.getElem?_eq_getElem (by rw [← HN.out]; exact hlt)⟩
    obtain ⟨a1, o1, rfl, ha1, hr1⟩ := (H1.out.ext BW.out).read (by rw [← HN.out]; omega)
    have R1 := Lib.hid (hr1 k x hx)
    have I1 := Lib.hid (V1.out k x hx)
    have K1 := Lib.hid hx
    have A1 := Lib.hid ha1
    clear hr1 ha1 hx
    obtain ⟨y, hy⟩ : ∃ z, ys[k]? = some z := ⟨_, List.getElem?_eq_getElem (by rw [← HM.out]; exact hlt)⟩
    obtain ⟨a2, o2, rfl, ha2, hr2⟩ := (H2.out.ext BW.out).read (by rw [← HM.out]; omega)
    have R2 := Lib.hid (hr2 k y hy)
    have I2 := Lib.hid (V2.out k y hy)
    have K2 := Lib.hid hy
    have A2 := Lib.hid ha2
    clear hr2 ha2 hy
    obtain ⟨b, hb⟩ : ∃ b, b = decide (x.ct = y.ct) := ⟨_, rfl⟩
    have HB := Lib.hid hb
    clear hb
    go_wp2_with (first | ((with_reducible refine so4 [36, 1000+36, 32, 1000+32, 4000+36] ?_ ?_); (focus rfl)) | (with_reducible refine stop_bs (t := 37) ?_) | (with_reducible refine stop_app ?_))
    obtain ⟨T, hT⟩ : ∃ T : List (Rw wr.heap.size), T = [.is (.slice (some ⟨a1, o1, none⟩) n cap1), .is (.int .i64 k), .is (.pointer (some ⟨a1, o1 + k * 42, none⟩)), .is (x.V), .is (.slice (some ⟨a2, o2, none⟩) n cap2), .is (.int .i64 k), .is (.pointer (some ⟨a2, o2 + k * 42, none⟩)), .is (y.V), .is (.bool b), .is (.bool (!b))] := ⟨_, rfl⟩
    have HTY : T.map Rw.tys = ([[], [], [], [], [], [], [], [], [], []] : List (List Nat)) := by rw [hT]; rfl
    refine wp_region_gen (JW wr.heap.size wr [0] T ([[], [], [], [], [], [], [], [], [], []] : List (List Nat)) ([none, none, none, none, none, none, none, none, none, none] : List (Option Nat)) ([] : List (Nat × Nat)) 100000) (by kernel_rfl) (by kernel_rfl) (by kernel_rfl) (fitB_spec (by kernel_rfl)) (fun listed f h => JW.start (Nat.le_refl _) listed f h) ?_ ?_
    ·intro i o ho
     have hi : i < 10 := (Array.getElem?_eq_some_iff.1 ho).1
     have hi' : i = 0 ∨ i = 1 ∨ i = 2 ∨ i = 3 ∨ i = 4 ∨ i = 5 ∨ i = 6 ∨ i = 7 ∨ i = 8 ∨ i = 9 := by omega
     clear hi
     rcases hi' with rfl | rfl | rfl | rfl | rfl | rfl | rfl | rfl | rfl | rfl
     all_goals (simp only [List.getElem?_toArray, List.getElem?_cons_zero, List.getElem?_cons_succ, Option.some.injEq] at ho; subst ho; intro listed f a w2 hJ hsz hls hun hdep hout hlat; first | (rw [if_pos (by rfl)]; intro K hK) | skip)
     ·have q0 := hout 0 (outB_spec (by kernel_rfl))
      refine wp_mv _ rfl (hK _ _ ?_)
      rw [show a.eval (.tmp 0) = .slice (some ⟨a1, o1, none⟩) n cap1 from q0]
      exact hJ.plain HTY (by rw [hls]; decide) (Ex.refl _) (by rw [hT]; rfl) (no_head (by decide))
     ·have q5 := hout 5 (outB_spec (by kernel_rfl))
      refine wp_mv _ rfl (hK _ _ ?_)
      rw [show a.eval (.tmp 5) = .int .i64 k from q5]
      exact hJ.plain HTY (by rw [hls]; decide) (Ex.refl _) (by rw [hT]; rfl) (no_head (by decide))
     ·have dd17 := hdep ⟨0, .data⟩ (by simp) rfl
      have q17 := dd17.2 _ rfl _ rfl
      have h17 := hJ.vals 0 dd17.1 no_c
      rw [hT] at h17
      rw [show f 0 = .slice (some ⟨a1, o1, none⟩) n cap1 from h17] at q17
      clear h17
      clear dd17
      have dd18 := hdep ⟨1, .data⟩ (by simp) rfl
      have q18 := dd18.2 _ rfl _ rfl
      have h18 := hJ.vals 1 dd18.1 no_c
      rw [hT] at h18
      rw [show f 1 = .int .i64 k from h18] at q18
      clear h18
      clear dd18
      rw [Array.getD_eq_getD_getElem?] at q17 q18
      clear hsz hdep hout hlat
      go_simp
      exact hK _ _ (hJ.plain HTY (by rw [hls]; decide) (Ex.refl _) (by rw [hT]; first | rfl | exact int_eq (by omega) | exact int_eq (by rw [IntKind.wrap_i64]; omega)) (no_head (by decide)))
     ·have dd19 := hdep ⟨2, .data⟩ (by simp) rfl
      have q19 := dd19.2 _ rfl _ rfl
      have h19 := hJ.vals 2 dd19.1 no_c
      rw [hT] at h19
      rw [show f 2 = .pointer (some ⟨a1, o1 + k * 42, none⟩) from h19] at q19
      clear h19
      clear dd19
      exact ld_vr (.tmp 19) a1 (o1 + k * 42) x I1.out.ok rfl q19 (fun j u hu => (Below.cell (p := ⟨a1, o1 + k * 42 + j, none⟩) hJ.ext.below A1.out).trans (R1.out j u hu)) (hK _ _ (hJ.plain HTY (by rw [hls]; decide) (Ex.refl _) (by rw [hT]; rfl) (no_head (by decide))))
     ·have q1 := hout 1 (outB_spec (by kernel_rfl))
      refine wp_mv _ rfl (hK _ _ ?_)
      rw [show a.eval (.tmp 1) = .slice (some ⟨a2, o2, none⟩) n cap2 from q1]
      exact hJ.plain HTY (by rw [hls]; decide) (Ex.refl _) (by rw [hT]; rfl) (no_head (by decide))
     ·have q5 := hout 5 (outB_spec (by kernel_rfl))
      refine wp_mv _ rfl (hK _ _ ?_)
      rw [show a.eval (.tmp 5) = .int .i64 k from q5]
      exact hJ.plain HTY (by rw [hls]; decide) (Ex.refl _) (by rw [hT]; rfl) (no_head (by decide))
     ·have dd21 := hdep ⟨4, .data⟩ (by simp) rfl
      have q21 := dd21.2 _ rfl _ rfl
      have h21 := hJ.vals 4 dd21.1 no_c
      rw [hT] at h21
      rw [show f 4 = .slice (some ⟨a2, o2, none⟩) n cap2 from h21] at q21
      clear h21
      clear dd21
      have dd22 := hdep ⟨5, .data⟩ (by simp) rfl
      have q22 := dd22.2 _ rfl _ rfl
      have h22 := hJ.vals 5 dd22.1 no_c
      rw [hT] at h22
      rw [show f 5 = .int .i64 k from h22] at q22
      clear h22
      clear dd22
      rw [Array.getD_eq_getD_getElem?] at q21 q22
      clear hsz hdep hout hlat
      go_simp
      exact hK _ _ (hJ.plain HTY (by rw [hls]; decide) (Ex.refl _) (by rw [hT]; first | rfl | exact int_eq (by omega) | exact int_eq (by rw [IntKind.wrap_i64]; omega)) (no_head (by decide)))
     ·have dd23 := hdep ⟨6, .data⟩ (by simp) rfl
      have q23 := dd23.2 _ rfl _ rfl
      have h23 := hJ.vals 6 dd23.1 no_c
      rw [hT] at h23
      rw [show f 6 = .pointer (some ⟨a2, o2 + k * 42, none⟩) from h23] at q23
      clear h23
      clear dd23
      exact ld_vr (.tmp 23) a2 (o2 + k * 42) y I2.out.ok rfl q23 (fun j u hu => (Below.cell (p := ⟨a2, o2 + k * 42 + j, none⟩) hJ.ext.below A2.out).trans (R2.out j u hu)) (hK _ _ (hJ.plain HTY (by rw [hls]; decide) (Ex.refl _) (by rw [hT]; rfl) (no_head (by decide))))
     ·have dd20 := hdep ⟨3, .data⟩ (by simp) rfl
      have q20 := dd20.2 _ rfl _ rfl
      have h20 := hJ.vals 3 dd20.1 no_c
      rw [hT] at h20
      rw [show f 3 = x.V from h20] at q20
      clear h20
      clear dd20
      have dd24 := hdep ⟨7, .data⟩ (by simp) rfl
      have q24 := dd24.2 _ rfl _ rfl
      have h24 := hJ.vals 7 dd24.1 no_c
      rw [hT] at h24
      rw [show f 7 = y.V from h24] at q24
      clear h24
      clear dd24
      rw [Array.getD_eq_getD_getElem?] at q20 q24
      clear hsz hdep hout hlat
      go_simp
      refine (rsame_any x y w2 (I1.out.ext (Ex.trans BW.out hJ.ext.below)) (I2.out.ext (Ex.trans BW.out hJ.ext.below))).mono ?_
      rintro e w3 ⟨rfl, x3⟩
      exact hK _ _ (hJ.plain HTY (by rw [hls]; decide) x3 (by rw [hT]; exact congrArg Value.bool HB.out.symm) (no_head (by decide)))
     have dd25 := hdep ⟨8, .data⟩ (by simp) rfl
     have q25 := dd25.2 _ rfl _ rfl
     have h25 := hJ.vals 8 dd25.1 no_c
     rw [hT] at h25
     rw [show f 8 = .bool b from h25] at q25
     clear h25
     clear dd25
     rw [Array.getD_eq_getD_getElem?] at q25
     clear hsz hdep hout hlat
     go_simp
     exact hK _ _ (hJ.plain HTY (by rw [hls]; decide) (Ex.refl _) (by rw [hT]; first | rfl | exact int_eq (by omega) | exact int_eq (by rw [IntKind.wrap_i64]; omega)) (no_head (by decide)))
    intro listed f w2 hall hJ
    have f9 : f 9 = .bool (!b) := by
     have h := hJ.vals 9 (hall 9 (by simp)) no_c
     rw [hT] at h; exact h
    have xk := hJ.ext
    simp only [putAll, Act.put, List.setIfInBounds_toArray, List.set_cons_zero, List.set_cons_succ, Nat.zero_add, Nat.reduceAdd]
    rw [f9]
    clear f9
    clear hJ hall hT HTY
    replace BW := Lib.hid (Ex.trans BW.out (show Ex wr w2 from xk.below))
    clear xk
    cases b
    ·skip
     go_wp2_with fail
     go_ret
     exact ⟨by rw [HBR.out, decide_eq_false (ct_ne K1.out K2.out (of_decide_eq_false HB.out.symm))]; rfl, BW.out⟩
    ·skip
     go_wp2_with (first | ((with_reducible refine so4 [36, 1000+36, 32, 1000+32, 4000+36] ?_ ?_); (focus rfl)) | (with_reducible refine stop_bs (t := 37) ?_) | (with_reducible refine stop_app ?_))
     go_roundw
     case rel => exact ⟨k + 1, by omega, by first | rfl | go_num, Lib.hid (ct_take_succ HG.out K1.out K2.out (of_decide_eq_true HB.out.symm)), BW⟩
     case measure => simp [intOf]; omega
   obtain rfl : k = n := by omega
   have q1 : ¬ (k : Int) < (k : Int) := by omega
   go_wp2_with fail
   go_ret
   exact ⟨by rw [HBR.out, decide_eq_true (by have := HG.out; rw [List.take_of_length_le (by rw [← HN.out]; exact Nat.le_refl _), List.take_of_length_le (by rw [← HM.out]; exact Nat.le_refl _)] at this; exact this)]; rfl, BW.out⟩
 have hi : ¬ (n : Int) = (m : Int) := by omega
 go_enter Try.func30, Try.ntmps30
 go_wp2_with fail
 go_ret
 exact ⟨by rw [HBR.out, decide_eq_false (fun h => hnm (by rw [HN.out, HM.out]; have := congrArg List.length h; simpa using this))]; rfl, Ex.refl _⟩
end Go.Proofs.Ytmjfnpmnhehnkaa
namespace Go.Proofs.Ytmjfnpmnhehnkaa
open Go.RowKit
theorem VRow.other {w w' : World} {D' B : Nat} {v rv' : Value} {xs vs' : List Vt} (h : VRow w B v xs) (h' : TB w D' rv' vs') (k : Tc D' rv'.ownBlock w w') (hr : Djn v rv') : VRow w' B v xs := by
 have hrow := h'.row.blk
 have keep : ∀ x, TVN w x → TVN w' x := fun x hx => by
  rcases hrow with e | ⟨gb, e, _, _, hb⟩
  ·exact hx.tc (gb := 0) k h'.blk (Or.inl e)
  exact hx.tc k h'.blk (Or.inr ⟨e, hb⟩)
 refine ⟨⟨h.row.1, h.row.2.imp id fun ⟨g, cap, cur, hv, hB, hg, hrest⟩ => ⟨g, cap, cur, hv, hB, ?_, hrest⟩⟩, fun i x hx => keep x (h.ins i x hx)⟩
 exact (show Bk w' g 36 cur from k.bk hg (fun e => by subst e; exact h'.D_ne hg rfl) (fun e => hr g (by rw [hv]; rfl) e.symm))
theorem VRow.inn3 {w : World} {B : Nat} {v : Value} {xs : List Vt} (h : VRow w B v xs) : ∃ ad cap, v = .slice ad xs.length cap ∧ Vp.In ad cap xs w ∧ cap ≤ 9223372036854775807 := by
 obtain ⟨ad, cap, e, hin⟩ := h.inn
 obtain ⟨ad2, cap2, e2, _, _, hc, _⟩ := own_rd h.row
 rw [e] at e2; cases e2
 exact ⟨ad, cap, e, hin, hc⟩
theorem allV_ct {v v2 : Nat → List Vt} (h : ∀ i, i < 16 → (v2 i).map Vt.ct = (v i).map Vt.ct) : ∀ k, k ≤ 16 → (allV v2 k).map Vt.ct = (allV v k).map Vt.ct
 | 0, _ => rfl
 | k + 1, hk => by rw [allV_succ, allV_succ, List.map_append, List.map_append, allV_ct h k (by omega), h k (by omega)]
end Go.Proofs.Ytmjfnpmnhehnkaa
