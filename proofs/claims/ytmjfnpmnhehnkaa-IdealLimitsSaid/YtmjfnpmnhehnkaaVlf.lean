/- known of chapter 11; facts on Do -/
import Derived.Lib.SlBytesConst
import Derived.Test.YtmjfnpmnhehnkaaVy
namespace Go.Proofs.Ytmjfnpmnhehnkaa
open Go.RowKit
theorem wrong_gen (v : Vc) : (wrongC v).gen = v.gen ∧ (wrongC v).id = v.id := by
  unfold wrongC; split <;> exact ⟨rfl, rfl⟩
theorem gone_right {id : List UInt8} {g : Int} {wi : Bool} (h0 : 1 ≤ g) (h1 : g ≤ 1099511627776) : (goneC id g wi).right = true := by
  unfold Vc.right
  rw [show (goneC id g wi).gone = true from rfl, if_pos rfl, show (goneC id g wi).gen = g from rfl, decide_eq_true (⟨h0, h1⟩ : 1 ≤ g ∧ g ≤ 1099511627776), show goneC (goneC id g wi).id g (goneC id g wi).wiped = goneC id g wi from rfl]
  simp
theorem right_split {v : Vc} (h : v.right = true) (hg : v.gone = false) : 1 ≤ v.gen ∧ v.gen ≤ 1099511627776 ∧ v.wiped = false ∧ 1 ≤ v.lim ∧ v.lim ≤ 32 ∧ 0 ≤ v.used ∧ v.used < v.lim ∧ v.sec.length ≤ 64 := by
  unfold Vc.right at h
  rw [hg, if_neg (by simp)] at h
  simp only [Bool.and_eq_true, decide_eq_true_eq, Bool.not_eq_true'] at h
  obtain ⟨⟨a, b⟩, ⟨⟨⟨c, d, e⟩, f⟩, g⟩, i⟩ := h
  exact ⟨a, b, c, d, e, f, g, i⟩
theorem right_mk {v : Vc} (hg : v.gone = false) (h : 1 ≤ v.gen ∧ v.gen ≤ 1099511627776 ∧ v.wiped = false ∧ 1 ≤ v.lim ∧ v.lim ≤ 32 ∧ 0 ≤ v.used ∧ v.used < v.lim ∧ v.sec.length ≤ 64) : v.right = true := by
  obtain ⟨a, b, c, d, e, f, g, i⟩ := h
  unfold Vc.right
  rw [hg, if_neg (by simp)]
  simp only [Bool.and_eq_true, decide_eq_true_eq, Bool.not_eq_true']
  exact ⟨⟨a, b⟩, ⟨⟨⟨c, d, e⟩, f⟩, g⟩, i⟩
theorem right_gen {v : Vc} (h : v.right = true) : 1 ≤ v.gen ∧ v.gen ≤ 1099511627776 := by
  unfold Vc.right at h
  rw [Bool.and_eq_true, decide_eq_true_eq] at h
  exact h.1
/-- a vault of an ID, or none -/
def Kept (id : List UInt8) (v : Vc) : Prop := v = zeroVc ∨ (v.right = true ∧ v.id = id)
structure Fresh (b : Bool) (w op : Int) : Prop where
  b : b = true
  w : w = 0
  o : op = 1 ∨ op = 3
structure Facts (v : Vc) (q : Qc) (v' : Vc) (r' : Rc) (b : Bool) : Prop where
  id : r'.id = q.id
  num : r'.num = q.num
  client : r'.client = q.client
  gen : r'.gen = v'.gen
  kept : Kept q.id v'
  yes : Fresh b r'.why q.op → v'.gen = v.gen + 1
  no : ¬ Fresh b r'.why q.op → v'.gen = v.gen
theorem qright_parts {q : Qc} (h : q.right = true) (ho : q.op = 1 ∨ q.op = 3) : 1 ≤ q.lim ∧ q.lim ≤ 32 ∧ q.sec.length ≤ 64 := by
  unfold Qc.right at h
  rw [if_pos ho] at h
  simp only [Bool.and_eq_true, decide_eq_true_eq] at h
  exact ⟨h.2.1.1, h.2.1.2, h.2.2⟩
theorem do_facts {v : Vc} {q : Qc} (hq : q.right = true) (hv : Kept q.id v) {v' : Vc} {r' : Rc} {b : Bool} (h : (v', r', b) = doC v q) : Facts v q v' r' b := by
  have hop := (Qc.right_op hq).1
  have hc : ¬ (q.right = false ∨ (v ≠ zeroVc ∧ (v.right = false ∨ v.id ≠ q.id))) := by
    rw [hq]
    rintro (h | ⟨h1, h2⟩)
    · cases h
    · rcases hv with hv | ⟨hv1, hv2⟩
      · exact h1 hv
      · rcases h2 with h2 | h2
        · rw [hv1] at h2; cases h2
        · exact h2 hv2
  unfold doC at h
  rw [if_neg hc] at h
  have hz : v = zeroVc → v.gen = 0 := fun e => by rw [e]; rfl
  by_cases hr : refuseC v (decide (v = zeroVc)) q = 0
  · rw [if_pos hr] at h
    have hr0 := hr
    unfold refuseC at hr0
    rcases hop with ho | ho | ho | ho
    · -- kept anew
      have ha : actC v q (repRt 0 q.id q.client q.num).ct = (freshC v q, { (repRt 0 q.id q.client q.num).ct with left := (freshC v q).left }, true) := by
        unfold actC; rw [if_neg (by omega), if_neg (by omega)]
      rw [ha] at h
      simp only [Prod.mk.injEq] at h
      obtain ⟨rfl, rfl, rfl⟩ := h
      have hg : v.gen ≠ 1099511627776 := by
        intro e
        rw [if_neg (by rintro ⟨_, h1, h2⟩; rw [if_pos ⟨ho, h1, h2⟩] at hr0; cases hr0), if_neg (fun h => h.1 ho), if_neg (fun h => h.1 ho), if_neg (by rintro ⟨h | h, _⟩ <;> omega), if_pos ⟨Or.inl ho, e⟩] at hr0
        cases hr0
      have hp := qright_parts hq (Or.inl ho)
      have hgv : 0 ≤ v.gen ∧ v.gen ≤ 1099511627776 := by
        rcases hv with hv | ⟨hv, _⟩
        · rw [hz hv]; omega
        · have := right_gen hv; omega
      exact ⟨rfl, rfl, rfl, rfl, Or.inr ⟨right_mk rfl ⟨by show 1 ≤ v.gen + 1; omega, by show v.gen + 1 ≤ 1099511627776; omega, rfl, hp.1, hp.2.1, Int.le_refl _, by show 0 < q.lim; omega, hp.2.2⟩, rfl⟩, fun _ => rfl, fun hn => absurd ⟨rfl, rfl, Or.inl ho⟩ hn⟩
    · -- recover
      have h2 := refuse_ok hr ho
      have hvr : v.right = true ∧ v.id = q.id := by
        rcases hv with hv | hv
        · exact absurd hv (of_decide_eq_false h2.1)
        · exact hv
      have hs := right_split hvr.1 h2.2
      have ha : actC v q (repRt 0 q.id q.client q.num).ct = guessC v q.pin (repRt 0 q.id q.client q.num).ct := by unfold actC; rw [if_pos ho]
      rw [ha] at h
      have nf : ∀ b w, ¬ Fresh b w q.op := fun b w h => by have := h.o; omega
      unfold guessC at h
      by_cases hpp : q.pin = v.pin
      · rw [if_pos hpp] at h
        simp only [Prod.mk.injEq] at h
        obtain ⟨rfl, rfl, rfl⟩ := h
        exact ⟨rfl, rfl, rfl, rfl, Or.inr hvr, fun hf => absurd hf (nf _ _), fun _ => rfl⟩
      · rw [if_neg hpp] at h
        simp only [Prod.mk.injEq] at h
        obtain ⟨rfl, rfl, rfl⟩ := h
        refine ⟨rfl, rfl, rfl, rfl, Or.inr ⟨?_, (wrong_gen v).2.trans hvr.2⟩, fun hf => absurd hf (nf _ _), fun _ => (wrong_gen v).1⟩
        unfold wrongC
        split
        · exact gone_right hs.1 hs.2.1
        · rename_i hne
          exact right_mk (v := { v with used := v.used + 1 }) h2.2 ⟨hs.1, hs.2.1, hs.2.2.1, hs.2.2.2.1, hs.2.2.2.2.1, by show 0 ≤ v.used + 1; omega, by show v.used + 1 < v.lim; omega, hs.2.2.2.2.2.2.2⟩
    · -- replaced
      have ha : actC v q (repRt 0 q.id q.client q.num).ct = (freshC v q, { (repRt 0 q.id q.client q.num).ct with left := (freshC v q).left }, true) := by
        unfold actC; rw [if_neg (by omega), if_neg (by omega)]
      rw [ha] at h
      simp only [Prod.mk.injEq] at h
      obtain ⟨rfl, rfl, rfl⟩ := h
      have hg : v.gen ≠ 1099511627776 := by
        intro e
        rw [if_neg (by rintro ⟨h1, _⟩; omega)] at hr0
        split at hr0
        · cases hr0
        · split at hr0
          · cases hr0
          · split at hr0
            · cases hr0
            · rw [if_pos ⟨Or.inr ho, e⟩] at hr0; cases hr0
      have hp := qright_parts hq (Or.inr ho)
      have hgv : 0 ≤ v.gen ∧ v.gen ≤ 1099511627776 := by
        rcases hv with hv | ⟨hv, _⟩
        · rw [hz hv]; omega
        · have := right_gen hv; omega
      exact ⟨rfl, rfl, rfl, rfl, Or.inr ⟨right_mk rfl ⟨by show 1 ≤ v.gen + 1; omega, by show v.gen + 1 ≤ 1099511627776; omega, rfl, hp.1, hp.2.1, Int.le_refl _, by show 0 < q.lim; omega, hp.2.2⟩, rfl⟩, fun _ => rfl, fun hn => absurd ⟨rfl, rfl, Or.inr ho⟩ hn⟩
    · -- removed
      have ha : actC v q (repRt 0 q.id q.client q.num).ct = (goneC v.id v.gen false, (repRt 0 q.id q.client q.num).ct, true) := by
        unfold actC; rw [if_neg (by omega), if_pos ho]
      rw [ha] at h
      simp only [Prod.mk.injEq] at h
      obtain ⟨rfl, rfl, rfl⟩ := h
      have hvr : v.right = true ∧ v.id = q.id := by
        rcases hv with hv | hv
        · rw [decide_eq_true hv, if_neg (by rintro ⟨h1, _⟩; omega), if_pos ⟨by omega, rfl⟩] at hr0
          cases hr0
        · exact hv
      have hg := right_gen hvr.1
      exact ⟨rfl, rfl, rfl, rfl, Or.inr ⟨gone_right hg.1 hg.2, hvr.2⟩, fun hf => by have := hf.o; omega, fun _ => rfl⟩
  · rw [if_neg hr] at h
    simp only [Prod.mk.injEq] at h
    obtain ⟨rfl, rfl, rfl⟩ := h
    exact ⟨rfl, rfl, rfl, rfl, hv, fun hf => absurd hf.b (by simp), fun _ => rfl⟩
/-- a row of what is drawn for requests -/
structure Kp.In (ad : Option Addr) (cap : Nat) (l : List Kq) (w : World) : Prop where
  len : l.length ≤ cap
  nil : ad = none → cap = 0
  ins : ∀ (i : Nat) (x : Kq), l[i]? = some x → x.In w
  read : 0 < l.length → ∃ a o, ad = some ⟨a, o, none⟩ ∧ a < w.heap.size ∧ ∀ (i : Nat) (x : Kq), l[i]? = some x → w.rangeAt a (o + i * 8) x.C
theorem Kp.In.ext {ad : Option Addr} {cap : Nat} {l : List Kq} {w w' : World} (h : Kp.In ad cap l w) (k : Ex w w') : Kp.In ad cap l w' :=
  ⟨h.len, h.nil, fun i x hx => (h.ins i x hx).ext k, fun h0 => by
    obtain ⟨a, o, e, hB, hc⟩ := h.read h0
    exact ⟨a, o, e, Nat.lt_of_lt_of_le hB k.sz, fun i x hx j v hv => (Below.cell (p := ⟨a, o + i * 8 + j, none⟩) k hB).trans (hc i x hx j v hv)⟩⟩
theorem Try.sizeKq : (Try.prog.info? 76).map (·.size) = some 8 := by kernel_rfl
theorem ld_k {o : Oper} {a : Act} {w : World} {K : Act → World → Prop} {Q : Exit → Act → World → Prop} (y : Operand) (g off : Nat) (x : Kq) (ho : o.op = .load 76 y) (ha : a.eval y = .pointer (some ⟨g, off, none⟩)) (h : w.rangeAt g off x.C) (hk : K (a.put o.dst x.V) w) : o.wp Try.prog a w K Q := by
  obtain ⟨dd, hd⟩ : ∃ d, Try.prog.underlying 76 = some d ∧ d.isRow = true := ⟨_, Try.underlying76, rfl⟩
  exact wp_load_mid 76 y ho g off ha x.C dd h hd.1 hd.2 (by rw [Try.sizeKq]; rfl) hk
/-- what Do does: kept anew; refused; told; a wrong guess; removed -/
inductive Kind (v : Vc) (q : Qc) : Vc → Rc → Bool → Prop
  | fresh (ho : q.op = 1 ∨ q.op = 3) (hg : v.gen < 1099511627776) : Kind v q (freshC v q) ⟨0, q.id, v.gen + 1, (freshC v q).left, [], q.client, q.num⟩ true
  | refused (e : Int) (h0 : e ≠ 0) (h23 : e ≠ 23) : Kind v q v ⟨e, q.id, v.gen, 0, [], q.client, q.num⟩ false
  | told (ho : q.op = 2) (hv : v.right = true) (hg : v.gone = false) (hp : q.pin = v.pin) : Kind v q v ⟨0, q.id, v.gen, v.left, v.sec, q.client, q.num⟩ false
  | wrong (ho : q.op = 2) (hv : v.right = true) (hg : v.gone = false) : Kind v q (wrongC v) ⟨23, q.id, v.gen, (wrongC v).left, [], q.client, q.num⟩ true
  | removed (ho : q.op = 4) (hv : v.right = true) (hg : v.gone = false) : Kind v q (goneC v.id v.gen false) ⟨0, q.id, v.gen, 0, [], q.client, q.num⟩ true
theorem refuse_not {v : Vc} {n : Bool} {q : Qc} : refuseC v n q ≠ 23 := by
  unfold refuseC
  repeat' split
  all_goals decide
theorem do_kind {v : Vc} {q : Qc} (hq : q.right = true) (hv : Kept q.id v) : Kind v q (doC v q).1 (doC v q).2.1 (doC v q).2.2 := by
  have hop := (Qc.right_op hq).1
  have hc : ¬ (q.right = false ∨ (v ≠ zeroVc ∧ (v.right = false ∨ v.id ≠ q.id))) := by
    rw [hq]
    rintro (h | ⟨h1, h2⟩)
    · cases h
    · rcases hv with hv | ⟨hv1, hv2⟩
      · exact h1 hv
      · rcases h2 with h2 | h2
        · rw [hv1] at h2; cases h2
        · exact h2 hv2
  have hgv : 0 ≤ v.gen ∧ v.gen ≤ 1099511627776 := by
    rcases hv with hv | ⟨hv, _⟩
    · rw [hv]; exact ⟨Int.le_refl _, by show (0 : Int) ≤ _; decide⟩
    · have := right_gen hv; omega
  unfold doC
  rw [if_neg hc]
  by_cases hr : refuseC v (decide (v = zeroVc)) q = 0
  · rw [if_pos hr]
    have hr0 := hr
    unfold refuseC at hr0
    have hnew : (q.op = 1 ∨ q.op = 3) → v.gen ≠ 1099511627776 := by
      intro ho e
      split at hr0
      · cases hr0
      · split at hr0
        · cases hr0
        · split at hr0
          · cases hr0
          · split at hr0
            · cases hr0
            · rw [if_pos ⟨ho, e⟩] at hr0; cases hr0
    have hold : q.op ≠ 1 → v ≠ zeroVc ∧ v.gone = false := by
      intro ho
      rw [if_neg (fun h => ho h.1)] at hr0
      split at hr0
      · cases hr0
      · rename_i h1
        split at hr0
        · cases hr0
        · rename_i h2
          refine ⟨fun e => h1 ⟨ho, decide_eq_true e⟩, ?_⟩
          cases hg : v.gone
          · rfl
          · exact absurd ⟨ho, hg⟩ h2
    have hvr : q.op ≠ 1 → v.right = true := fun ho => hv.elim (fun e => absurd e (hold ho).1) (fun h => h.1)
    have fr : (q.op = 1 ∨ q.op = 3) → actC v q (repRt 0 q.id q.client q.num).ct = (freshC v q, { (repRt 0 q.id q.client q.num).ct with left := (freshC v q).left }, true) := fun ho => by
      unfold actC; rw [if_neg (by omega), if_neg (by omega)]
    rcases hop with ho | ho | ho | ho
    · rw [fr (Or.inl ho)]
      have := hnew (Or.inl ho)
      exact .fresh (Or.inl ho) (by omega)
    · have ha : actC v q (repRt 0 q.id q.client q.num).ct = guessC v q.pin (repRt 0 q.id q.client q.num).ct := by unfold actC; rw [if_pos ho]
      rw [ha]
      unfold guessC
      by_cases hpp : q.pin = v.pin
      · rw [if_pos hpp]
        exact .told ho (hvr (by omega)) (hold (by omega)).2 hpp
      · rw [if_neg hpp]
        have e := (wrong_gen v).1
        have k := Kind.wrong (v := v) (q := q) ho (hvr (by omega)) (hold (by omega)).2
        show Kind v q (wrongC v) ⟨23, q.id, (wrongC v).gen, (wrongC v).left, [], q.client, q.num⟩ true
        rw [e]; exact k
    · rw [fr (Or.inr ho)]
      have := hnew (Or.inr ho)
      exact .fresh (Or.inr ho) (by omega)
    · have ha : actC v q (repRt 0 q.id q.client q.num).ct = (goneC v.id v.gen false, (repRt 0 q.id q.client q.num).ct, true) := by
        unfold actC; rw [if_neg (by omega), if_pos ho]
      rw [ha]
      exact .removed ho (hvr (by omega)) (hold (by omega)).2
  · rw [if_neg hr]
    exact .refused _ hr refuse_not
theorem Kept.gen {id : List UInt8} {v : Vc} (h : Kept id v) : 0 ≤ v.gen ∧ v.gen ≤ 1099511627776 := by
  rcases h with h | ⟨h, _⟩
  · rw [h]; exact ⟨Int.le_refl _, by show (0 : Int) ≤ _; decide⟩
  · have := right_gen h; omega
theorem wrong_left {v : Vc} (hv : v.right = true) (hg : v.gone = false) : (wrongC v).left = v.lim - (v.used + 1) := by
  have hs := right_split hv hg
  unfold wrongC
  by_cases e : v.used + 1 = v.lim
  · rw [if_pos e]
    unfold Vc.left
    rw [if_pos (show (goneC v.id v.gen true).gone = true from rfl)]; omega
  · rw [if_neg e]
    unfold Vc.left
    rw [if_neg (by show ¬ v.gone = true; rw [hg]; simp), if_pos (right_mk (v := { v with used := v.used + 1 }) hg ⟨hs.1, hs.2.1, hs.2.2.1, hs.2.2.2.1, hs.2.2.2.2.1, by show 0 ≤ v.used + 1; omega, by show v.used + 1 < v.lim; omega, hs.2.2.2.2.2.2.2⟩)]
theorem right_min3 {q : Qt} (h : q.ct.right = true) (id : List UInt8) (z : Int) (hz : z = min q.lim 3) : (Qt.ct { q with id := id, lim := z }).right = true := by
  have h' := h
  unfold Qc.right at h ⊢
  rw [Bool.and_eq_true] at h
  rw [Bool.and_eq_true]
  refine ⟨h.1, ?_⟩
  have h2 := h.2
  show (if q.op = 1 ∨ q.op = 3 then decide (1 ≤ z ∧ z ≤ 32) && decide (q.sec.l.length ≤ 64) else if q.op = 2 then decide (z = 0) && decide (q.own = z16) && decide (q.sec.l = []) else if q.op = 4 then decide (z = 0) && decide (q.pin = z16) && decide (q.sec.l = []) else false) = true
  replace h2 : (if q.op = 1 ∨ q.op = 3 then decide (1 ≤ q.lim ∧ q.lim ≤ 32) && decide (q.sec.l.length ≤ 64) else if q.op = 2 then decide (q.lim = 0) && decide (q.own = z16) && decide (q.sec.l = []) else if q.op = 4 then decide (q.lim = 0) && decide (q.pin = z16) && decide (q.sec.l = []) else false) = true := h2
  split
  · rename_i ho
    rw [if_pos ho] at h2
    simp only [Bool.and_eq_true, decide_eq_true_eq] at h2 ⊢
    exact ⟨by omega, h2.2⟩
  · rename_i ho
    rw [if_neg ho] at h2
    split
    · rename_i h3
      rw [if_pos h3] at h2
      simp only [Bool.and_eq_true, decide_eq_true_eq] at h2 ⊢
      exact ⟨⟨by omega, h2.1.2⟩, h2.2⟩
    · rename_i h3
      rw [if_neg h3] at h2
      split
      · rename_i h4
        rw [if_pos h4] at h2
        simp only [Bool.and_eq_true, decide_eq_true_eq] at h2 ⊢
        exact ⟨⟨by omega, h2.1.2⟩, h2.2⟩
      · rename_i h4
        rw [if_neg h4] at h2; cases h2
end Go.Proofs.Ytmjfnpmnhehnkaa
