/- A region that draws its order, in which each operation's value is known: what memory is hangs on what has been done. -/
import Derived.Test.YtgkmfhhoifbbbaaDoorFlA
namespace Go.Proofs.YtgkmfhhoifbbbaaDoor
open Go.RowKit
section
variable {P : Program} {ops : Array Oper} {Q : Exit → Act → World → Prop} {a0 : Act} {val : Nat → Value} {I : Array Bool → World → Prop}
structure Sv (ops : Array Oper) (a0 : Act) (val : Nat → Value) (I : Array Bool → World → Prop) (listed : Array Bool) (a : Act) (w : World) : Prop where
  inv : I listed w
  defers : a.defers = a0.defers
  size : a.tmps.size = a0.tmps.size
  done : ∀ (i : Nat) (o : Oper), ops[i]? = some o → listed.getD i false = true → ∀ t, o.dst = some t → a.tmps.getD t undef = val i
  rest : ∀ t, (∀ (i : Nat) (o : Oper), ops[i]? = some o → listed.getD i false = true → o.dst ≠ some t) → a.tmps.getD t undef = a0.tmps.getD t undef
def AskV (P : Program) (ops : Array Oper) (Q : Exit → Act → World → Prop) (a0 : Act) (val : Nat → Value) (I : Array Bool → World → Prop) (i : Nat) (o : Oper) : Prop :=
  ∀ listed a w, I listed w → a.tmps.size = a0.tmps.size → listed.size = ops.size → listed.getD i false = false →
    (∀ e, e ∈ o.after → Region.binds .any e = true → listed.getD e.on false = true ∧ ∀ oj, ops[e.on]? = some oj → ∀ t, oj.dst = some t → a.tmps.getD t undef = val e.on) →
    (∀ t, (∀ (j : Nat) oj, ops[j]? = some oj → oj.dst ≠ some t) → a.tmps.getD t undef = a0.tmps.getD t undef) →
    if Region.wanted o (yielded ops a.tmps) = true then ∀ K : Act → World → Prop, (∀ w', I (listed.setIfInBounds i true) w' → K (a.put o.dst (val i)) w') → o.wp P a w K Q else val i = undef ∧ I (listed.setIfInBounds i true) w
theorem Sv.step (hd : dstB ops = true) {listed : Array Bool} {a : Act} {w : World} (h : Sv ops a0 val I listed a w) {i : Nat} {o : Oper} (hi : ops[i]? = some o) (hn : listed.getD i false = false) (hlt : i < listed.size)
    (hfit : ∀ t, o.dst = some t → t < a0.tmps.size) {w' : World} (hv : I (listed.setIfInBounds i true) w') : Sv ops a0 val I (listed.setIfInBounds i true) (a.put o.dst (val i)) w' := by
  refine ⟨hv, ?_, ?_, ?_, ?_⟩
  · cases o.dst <;> exact h.defers
  · cases o.dst with
    | none => exact h.size
    | some d => simpa [Act.put] using h.size
  · intro j oj hj hl
    rcases listed_set hl with rfl | hl'
    · rw [hi] at hj; cases hj
      intro t ht
      have := hfit t ht
      rw [ht]
      simp [Act.put, h.size, this]
    · have hne : i ≠ j := by rintro rfl; rw [hn] at hl'; cases hl'
      intro t ht
      rw [getD_put _ _ _ _ (dstB_ne hd (Ne.symm hne) hj hi ht)]
      exact h.done j oj hj hl' t ht
  · intro t ht
    have h1 : o.dst ≠ some t := by
      refine ht i o hi ?_
      simp [hlt]
    rw [getD_put _ _ _ _ h1]
    exact h.rest t fun j oj hj hl => ht j oj hj (by
      by_cases e : i = j
      · subst e; rw [hn] at hl; cases hl
      · simpa [Array.getElem?_setIfInBounds_ne e] using hl)
theorem flow_inv (hb : backB ops = true) (hd : dstB ops = true)
    (hfit : ∀ (i : Nat) (o : Oper), ops[i]? = some o → ∀ t, o.dst = some t → t < a0.tmps.size)
    (H : ∀ (i : Nat) (o : Oper), ops[i]? = some o → AskV P ops Q a0 val I i o)
    (L : ∀ listed a w, (∀ i, i < ops.size → listed.getD i false = true) → I listed w → a.defers = a0.defers → a.tmps.size = a0.tmps.size → (∀ (i : Nat) (o : Oper), ops[i]? = some o → ∀ t, o.dst = some t → a.tmps.getD t undef = val i) →
      (∀ t, (∀ (i : Nat) (o : Oper), ops[i]? = some o → o.dst ≠ some t) → a.tmps.getD t undef = a0.tmps.getD t undef) → Q .normal a w) :
    ∀ fuel listed a w, listed.size = ops.size → unl listed ≤ fuel → Sv ops a0 val I listed a w → wpAny P .any ops Q fuel listed a w := by
  intro fuel
  induction fuel with
  | zero =>
    intro listed a w hs hu h
    have hall : ∀ i, i < ops.size → listed.getD i false = true := by
      intro i hi
      cases h2 : listed.getD i false with
      | true => rfl
      | false => have := unl_pos (i := i) (by omega) h2; omega
    refine any_end (fun i hi => ?_) (L listed a w hall h.inv h.defers h.size (fun i o ho => h.done i o ho (hall i (Array.getElem?_eq_some_iff.1 ho).1)) (fun t ht => h.rest t fun i o ho _ => ht i o ho)) 0
    have h3 := hall i hi
    have : i < listed.size := by omega
    simpa [this] using h3
  | succ f ih =>
    intro listed a w hs hu h
    by_cases hq : ∀ i, i < ops.size → listed.getD i false = true
    · refine any_end (fun i hi => ?_) (L listed a w hq h.inv h.defers h.size (fun i o ho => h.done i o ho (hq i (Array.getElem?_eq_some_iff.1 ho).1)) (fun t ht => h.rest t fun i o ho _ => ht i o ho)) (f + 1)
      have h3 := hq i hi
      have : i < listed.size := by omega
      simpa [this] using h3
    · have ⟨n, hn, hnl⟩ : ∃ n, n < ops.size ∧ listed.getD n false = false := by
        apply Classical.byContradiction
        intro hc
        apply hq
        intro i hi
        cases h2 : listed.getD i false with
        | true => rfl
        | false => exact absurd ⟨i, hi, h2⟩ hc
      refine ⟨fun h0 => ?_, fun i hi => ?_⟩
      · obtain ⟨j, hj⟩ := least_ready hb hs n hn hnl
        rw [h0] at hj; cases hj
      · obtain ⟨hun, o, ho, hall⟩ := mem_ready.1 hi
        have hlt : i < ops.size := (Array.getElem?_eq_some_iff.1 ho).1
        have hil : i < listed.size := by omega
        have hun' : listed.getD i false = false := by simpa [hil] using hun
        have hq := H i o ho listed a w h.inv h.size hs hun' (fun e he hbd => ⟨hall e he hbd, fun oj hoj => h.done e.on oj hoj (hall e he hbd)⟩) (fun t ht => h.rest t fun j oj hoj _ => ht j oj hoj)
        have key : ∀ w', I (listed.setIfInBounds i true) w' → wpAny P .any ops Q f (listed.setIfInBounds i true) (a.put o.dst (val i)) w' := fun w' hv =>
          ih _ _ _ (by simpa using hs) (by have := unl_set hil hun'; omega) (h.step hd ho hun' hil (hfit i o ho) hv)
        unfold wpOp
        simp only [ho]
        split
        · rename_i hw
          rw [if_pos hw] at hq
          exact .inl (hq _ key)
        · rename_i hw
          rw [if_neg hw] at hq
          have := key w hq.2
          rw [hq.1] at this
          exact this
theorem wp_region_inv {w0 : World} {id : Nat} {l : List Oper} (val : Nat → Value) (I : Array Bool → World → Prop) (hm : P.follows .mixedOrders = true) (hb : backB l.toArray = true) (hd : dstB l.toArray = true)
    (hfit : ∀ (i : Nat) (o : Oper), l.toArray[i]? = some o → ∀ t, o.dst = some t → t < a0.tmps.size)
    (h0 : ∀ listed, (∀ i, listed.getD i false = false) → I listed w0.drew)
    (H : ∀ (i : Nat) (o : Oper), l.toArray[i]? = some o → AskV P l.toArray Q a0 val I i o)
    (L : ∀ listed a w, (∀ i, i < l.toArray.size → listed.getD i false = true) → I listed w → a.defers = a0.defers → a.tmps.size = a0.tmps.size → (∀ (i : Nat) (o : Oper), l.toArray[i]? = some o → ∀ t, o.dst = some t → a.tmps.getD t undef = val i) →
      (∀ t, (∀ (i : Nat) (o : Oper), l.toArray[i]? = some o → o.dst ≠ some t) → a.tmps.getD t undef = a0.tmps.getD t undef) → Q .normal a w) :
    (Code.region id l.toArray true).wp P Q a0 w0 := by
  refine wp_region_any hm ?_
  have hz : ∀ i, (Array.replicate l.toArray.size false).getD i false = false := by
    intro i
    rw [Array.getD_eq_getD_getElem?, Array.getElem?_replicate]
    split <;> rfl
  refine flow_inv hb hd hfit H L _ _ _ _ (by simp) ?_ ⟨h0 _ hz, rfl, rfl, ?_, fun _ _ => rfl⟩
  · unfold unl
    refine Nat.le_trans List.countP_le_length ?_
    simp
  · intro i o hi hli
    rw [hz i] at hli; cases hli
def putAll (val : Nat → Value) : Nat → List Oper → Act → Act
  | _, [], a => a
  | i, o :: r, a => putAll val (i + 1) r (a.put o.dst (val i))
theorem put_size (a : Act) (d : Option Tmp) (v : Value) : (a.put d v).tmps.size = a.tmps.size := by cases d <;> simp [Act.put]
theorem put_defers (a : Act) (d : Option Tmp) (v : Value) : (a.put d v).defers = a.defers := by cases d <;> rfl
theorem putAll_defers (val : Nat → Value) : ∀ (l : List Oper) (i : Nat) (a : Act), (putAll val i l a).defers = a.defers
  | [], _, _ => rfl
  | o :: r, i, a => (putAll_defers val r (i + 1) _).trans (put_defers a o.dst _)
theorem putAll_size (val : Nat → Value) : ∀ (l : List Oper) (i : Nat) (a : Act), (putAll val i l a).tmps.size = a.tmps.size
  | [], _, _ => rfl
  | o :: r, i, a => (putAll_size val r (i + 1) _).trans (put_size a o.dst _)
theorem putAll_none (val : Nat → Value) (t : Tmp) : ∀ (l : List Oper) (i : Nat) (a : Act), (∀ o, o ∈ l → o.dst ≠ some t) → (putAll val i l a).tmps.getD t undef = a.tmps.getD t undef
  | [], _, _, _ => rfl
  | o :: r, i, a, h => (putAll_none val t r (i + 1) _ fun o' h' => h o' (List.mem_cons_of_mem _ h')).trans (getD_put a _ _ _ (h o List.mem_cons_self))
theorem putAll_one (val : Nat → Value) (t : Tmp) : ∀ (l : List Oper) (i j : Nat) (a : Act) (o : Oper), l[j]? = some o → o.dst = some t → (∀ k o', l[k]? = some o' → k ≠ j → o'.dst ≠ some t) → t < a.tmps.size → (putAll val i l a).tmps.getD t undef = val (i + j)
  | [], _, _, _, _, h, _, _, _ => by simp at h
  | x :: r, i, 0, a, o, h, ht, hu, hs => by
    obtain rfl : x = o := by simpa using h
    refine (putAll_none val t r (i + 1) _ fun o' h' => ?_).trans ?_
    · obtain ⟨k, hk, e⟩ := List.getElem_of_mem h'
      exact hu (k + 1) o' (by simp [List.getElem?_cons_succ, hk, e]) (by omega)
    · rw [ht]; simp [Act.put, hs]
  | x :: r, i, j + 1, a, o, h, ht, hu, hs => by
    refine (putAll_one val t r (i + 1) j _ o (by simpa using h) ht (fun k o' hk hne => hu (k + 1) o' (by simpa using hk) (by omega)) (by rw [put_size]; exact hs)).trans ?_
    rw [show i + 1 + j = i + (j + 1) by omega]
theorem act_ext {a b : Act} (h1 : a.tmps.size = b.tmps.size) (h2 : ∀ t, a.tmps.getD t undef = b.tmps.getD t undef) (h3 : a.defers = b.defers) : a = b := by
  obtain ⟨x, y⟩ := a
  obtain ⟨x', y'⟩ := b
  obtain rfl : y = y' := h3
  have : x = x' := by
    refine Array.ext h1 fun i hi hj => ?_
    have := h2 i
    simpa [Array.getD_eq_getD_getElem?, hi, hj] using this
  rw [this]
theorem act_all (l : List Oper) (hd : dstB l.toArray = true) {a : Act} (hdef : a.defers = a0.defers) (hsz : a.tmps.size = a0.tmps.size)
    (hfit : ∀ (i : Nat) (o : Oper), l.toArray[i]? = some o → ∀ t, o.dst = some t → t < a0.tmps.size)
    (h1 : ∀ (i : Nat) (o : Oper), l.toArray[i]? = some o → ∀ t, o.dst = some t → a.tmps.getD t undef = val i)
    (h2 : ∀ t, (∀ (i : Nat) (o : Oper), l.toArray[i]? = some o → o.dst ≠ some t) → a.tmps.getD t undef = a0.tmps.getD t undef) : a = putAll val 0 l a0 := by
  refine act_ext (hsz.trans (putAll_size ..).symm) (fun t => ?_) (hdef.trans (putAll_defers ..).symm)
  by_cases h : ∃ (i : Nat) (o : Oper), l.toArray[i]? = some o ∧ o.dst = some t
  · obtain ⟨i, o, ho, ht⟩ := h
    rw [h1 i o ho t ht, putAll_one val t l 0 i a0 o (by simpa using ho) ht (fun k o' hk hne => dstB_ne hd (Ne.symm hne) (by simpa using ho) (by simpa using hk) ht) (hfit i o ho t ht), Nat.zero_add]
  · have hn : ∀ (i : Nat) (o : Oper), l.toArray[i]? = some o → o.dst ≠ some t := fun i o ho e => h ⟨i, o, ho, e⟩
    rw [h2 t hn, putAll_none]
    intro o ho
    obtain ⟨k, hk, e⟩ := List.getElem_of_mem ho
    exact hn k o (by simp [hk, e])
theorem wp_region_val {w0 : World} {id : Nat} {l : List Oper} (val : Nat → Value) (I : Array Bool → World → Prop) (hm : P.follows .mixedOrders = true) (hb : backB l.toArray = true) (hd : dstB l.toArray = true)
    (hfit : ∀ (i : Nat) (o : Oper), l.toArray[i]? = some o → ∀ t, o.dst = some t → t < a0.tmps.size)
    (h0 : ∀ listed, (∀ i, listed.getD i false = false) → I listed w0.drew)
    (H : ∀ (i : Nat) (o : Oper), l.toArray[i]? = some o → AskV P l.toArray Q a0 val I i o)
    (L : ∀ listed w, (∀ i, i < l.toArray.size → listed.getD i false = true) → I listed w → Q .normal (putAll val 0 l a0) w) :
    (Code.region id l.toArray true).wp P Q a0 w0 :=
  wp_region_inv val I hm hb hd hfit h0 H fun listed a w hall hI hdef hsz h1 h2 => by
    rw [act_all l hd hdef hsz hfit h1 h2]
    exact L listed w hall hI
theorem not_wanted {o oj : Oper} {a : Act} {j : Nat} {b b' : Bool} {t : Tmp} (hgd : o.guard = some (j, b)) (hj : ops[j]? = some oj) (ht : oj.dst = some t) (hv : a.tmps.getD t undef = .bool b') (hne : b' ≠ b) : ¬ Region.wanted o (yielded ops a.tmps) = true := by
  have h1 : a.tmps[t]? = some (.bool b') := by
    rw [Array.getD_eq_getD_getElem?] at hv
    cases h : a.tmps[t]? with
    | none => rw [h] at hv; cases hv
    | some x => rw [h] at hv; simp at hv; rw [hv]
  unfold Region.wanted yielded
  simp [hgd, hj, ht, h1]
  exact hne
theorem bit_set {l : Array Bool} {i j : Nat} (h : i ≠ j) : (l.setIfInBounds i true).getD j false = l.getD j false := gset h false
theorem bit_new {l : Array Bool} {i : Nat} (h : i < l.size) : (l.setIfInBounds i true).getD i false = true := by simp [h]
end
end Go.Proofs.YtgkmfhhoifbbbaaDoor
