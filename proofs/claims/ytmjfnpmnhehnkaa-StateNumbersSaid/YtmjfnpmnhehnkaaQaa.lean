/- FlA, FlV, FlG -/
import Derived.Deep.Quiet
import Derived.WalkKit
import Derived.Below
set_option maxRecDepth 100000
set_option maxHeartbeats 16000000
namespace Go.Proofs.Ytmjfnpmnhehnkaa
open Go.RowKit
def Ex (w w' : World) : Prop := Below w.heap.size w w'
theorem Ex.refl (w : World) : Ex w w := Below.refl _ _
theorem Ex.trans {a b c : World} (h : Ex a b) (k : Ex b c) : Ex a c := Below.trans h (k.mono h.size)
section
variable {P : Program} {ops : Array Oper} {Q : Exit → Act → World → Prop} {a0 : Act} {w0 : World} {φ : Nat → Value → World → Prop}
structure St (ops : Array Oper) (a0 : Act) (w0 : World) (φ : Nat → Value → World → Prop) (listed : Array Bool) (a : Act) (w : World) : Prop where
  ext : Ex w0 w
  defers : a.defers = a0.defers
  size : a.tmps.size = a0.tmps.size
  done : ∀ i o, ops[i]? = some o → listed.getD i false = true → ∃ v, φ i v w ∧ ∀ t, o.dst = some t → a.tmps.getD t undef = v
  rest : ∀ t, (∀ i o, ops[i]? = some o → listed.getD i false = true → o.dst ≠ some t) → a.tmps.getD t undef = a0.tmps.getD t undef
  closed : ∀ i o, ops[i]? = some o → listed.getD i false = true → ∀ e, e ∈ o.after → Region.binds .any e = true → listed.getD e.on false = true
def backB (ops : Array Oper) : Bool := ops.toList.zipIdx.all fun x => x.1.after.toList.all fun e => !Region.binds .any e || decide (e.on < x.2)
def dstB (ops : Array Oper) : Bool := (List.range ops.size).all fun i => (List.range i).all fun j => match ops[i]?, ops[j]? with
  | some oi, some oj => oi.dst == none || oi.dst != oj.dst
  | _, _ => true
theorem dstB_lt (h : dstB ops = true) {i j : Nat} (hij : j < i) {oi oj : Oper} (hi : ops[i]? = some oi) (hj : ops[j]? = some oj) {t : Tmp} (ht : oi.dst = some t) : oj.dst ≠ some t := by
  unfold dstB at h
  rw [List.all_eq_true] at h
  have h1 := h i (by rw [List.mem_range]; exact (Array.getElem?_eq_some_iff.1 hi).1)
  rw [List.all_eq_true] at h1
  have h2 := h1 j (by rw [List.mem_range]; exact hij)
  simp only [hi, hj, ht] at h2
  intro e
  rw [e] at h2
  simp at h2
theorem dstB_ne (h : dstB ops = true) {i j : Nat} (hij : i ≠ j) {oi oj : Oper} (hi : ops[i]? = some oi) (hj : ops[j]? = some oj) {t : Tmp} (ht : oi.dst = some t) : oj.dst ≠ some t := by
  rcases Nat.lt_or_gt_of_ne hij with hlt | hlt
  · intro e; exact dstB_lt h hlt hj hi e ht
  exact dstB_lt h hlt hi hj ht
theorem backB_spec (h : backB ops = true) {i : Nat} {o : Oper} (hi : ops[i]? = some o) {e : Edge} (he : e ∈ o.after) (hb : Region.binds .any e = true) : e.on < i := by
  unfold backB at h
  rw [List.all_eq_true] at h
  have h1 := h (o, i) (by
    rw [List.mem_zipIdx_iff_getElem?]
    simpa using hi)
  rw [List.all_eq_true] at h1
  have h2 := h1 e (by simpa using he)
  simpa [hb] using h2
theorem getD_put (a : Act) (d : Option Tmp) (v : Value) (t : Tmp) (h : d ≠ some t) : (a.put d v).tmps.getD t undef = a.tmps.getD t undef := by
  cases d with
  | none => rfl
  | some d =>
    have hd : d ≠ t := fun e => h (by rw [e])
    simp [Act.put, Array.getElem?_setIfInBounds_ne hd]
theorem listed_set {l : Array Bool} {i j : Nat} (h : (l.setIfInBounds i true).getD j false = true) : j = i ∨ l.getD j false = true := by
  by_cases e : i = j
  · exact .inl e.symm
  right
  simpa [Array.getElem?_setIfInBounds_ne e] using h
theorem St.step (hd : dstB ops = true) (hst : ∀ i v w w', φ i v w → Ex w w' → φ i v w') {listed : Array Bool} {a : Act} {w : World} (h : St ops a0 w0 φ listed a w) {i : Nat} {o : Oper} (hi : ops[i]? = some o) (hn : listed.getD i false = false) (hlt : i < listed.size) (hrd : ∀ e, e ∈ o.after → Region.binds .any e = true → listed.getD e.on false = true)
    (hfit : ∀ t, o.dst = some t → t < a0.tmps.size) {v : Value} {w' : World} (hw : Ex w w') (hv : φ i v w') : St ops a0 w0 φ (listed.setIfInBounds i true) (a.put o.dst v) w' := by
  refine ⟨h.ext.trans hw, ?_, ?_, ?_, ?_, ?_⟩
  · cases o.dst <;> exact h.defers
  · cases o.dst with
    | none => exact h.size
    | some d => simpa [Act.put] using h.size
  · intro j oj hj hl
    rcases listed_set hl with rfl | hl'
    · rw [hi] at hj; cases hj
      refine ⟨v, hv, fun t ht => ?_⟩
      have := hfit t ht
      rw [ht]
      simp [Act.put, h.size, this]
    have hne : i ≠ j := by rintro rfl; rw [hn] at hl'; cases hl'
    obtain ⟨u, hu, hu2⟩ := h.done j oj hj hl'
    refine ⟨u, hst j u w w' hu hw, fun t ht => ?_⟩
    rw [getD_put _ _ _ _ (dstB_ne hd (Ne.symm hne) hj hi ht)]
    exact hu2 t ht
  · intro t ht
    have h1 : o.dst ≠ some t := by
      refine ht i o hi ?_
      simp [hlt]
    rw [getD_put _ _ _ _ h1]
    exact h.rest t fun j oj hj hl => ht j oj hj (by
      by_cases e : i = j
      · subst e; rw [hn] at hl; cases hl
      · simpa [Array.getElem?_setIfInBounds_ne e] using hl)
  have up : ∀ j, listed.getD j false = true → (listed.setIfInBounds i true).getD j false = true := by
    intro j hj
    by_cases e : i = j
    · subst e; rw [hn] at hj; cases hj
    · simpa [Array.getElem?_setIfInBounds_ne e] using hj
  intro j oj hj hl e he hb
  rcases listed_set hl with rfl | hl'
  · rw [hi] at hj; cases hj
    exact up _ (hrd e he hb)
  exact up _ (h.closed j oj hj hl' e he hb)
theorem gset {l : Array Bool} {i j : Nat} (h : i ≠ j) (d : Bool) : (l.setIfInBounds i true).getD j d = l.getD j d := by
  rw [Array.getD_eq_getD_getElem?, Array.getD_eq_getD_getElem?, Array.getElem?_setIfInBounds_ne h]
theorem least_ready (hb : backB ops = true) {listed : Array Bool} (hs : listed.size = ops.size) : ∀ i, i < ops.size → listed.getD i false = false → ∃ j, j ∈ Region.ready .any ops listed := by
  intro i
  induction i using Nat.strongRecOn with
  | _ i ih =>
    intro hi hl
    by_cases h : ∃ j, j < i ∧ listed.getD j false = false
    · obtain ⟨j, hj, hjl⟩ := h
      exact ih j hj (by omega) hjl
    · refine ⟨i, mem_ready.2 ⟨?_, ops[i], by simp [hi], fun e he hbd => ?_⟩⟩
      · have : i < listed.size := by omega
        simpa [this] using hl
      · have h1 := backB_spec hb (i := i) (o := ops[i]) (by simp [hi]) he hbd
        cases h2 : listed.getD e.on false with
        | true => rfl
        | false => exact absurd ⟨e.on, h1, h2⟩ h
def unl (listed : Array Bool) : Nat := listed.toList.countP (fun b => !b)
theorem unl_set {listed : Array Bool} {i : Nat} (hi : i < listed.size) (hn : listed.getD i false = false) : unl (listed.setIfInBounds i true) + 1 = unl listed := by
  unfold unl
  have hx : listed.toList[i]'(by simpa using hi) = false := by simpa [hi] using hn
  have hpos : 0 < listed.toList.countP (fun b => !b) := by
    rw [List.countP_pos_iff]
    exact ⟨false, by rw [← hx]; exact List.getElem_mem _, rfl⟩
  rw [Array.toList_setIfInBounds, List.countP_set (by simpa using hi), hx]
  simp only [Bool.not_false, Bool.not_true, if_true, Bool.false_eq_true, if_false]
  omega
theorem unl_pos {listed : Array Bool} {i : Nat} (hi : i < listed.size) (hn : listed.getD i false = false) : 0 < unl listed := by
  have := unl_set hi hn; omega
theorem any_end {listed : Array Bool} (hall : ∀ i, i < ops.size → listed.getD i true = true) {a : Act} {w : World} (h : Q .normal a w) : ∀ fuel, wpAny P .any ops Q fuel listed a w := by
  have hr : Region.ready .any ops listed = [] := by
    cases hq : Region.ready .any ops listed with
    | nil => rfl
    | cons j l =>
      have hj : j ∈ Region.ready .any ops listed := by rw [hq]; exact List.mem_cons_self
      obtain ⟨h1, o, ho, _⟩ := mem_ready.1 hj
      have h2 := hall j (Array.getElem?_eq_some_iff.1 ho).1
      rw [h1] at h2; cases h2
  intro fuel
  cases fuel with
  | zero => exact ⟨hr, h⟩
  | succ f => exact ⟨fun _ => h, fun i hi => by rw [hr] at hi; cases hi⟩
def fitB (ops : Array Oper) (n : Nat) : Bool := ops.toList.all fun o => match o.dst with
  | none => true
  | some t => decide (t < n)
theorem fitB_spec {n : Nat} (h : fitB ops n = true) (i : Nat) (o : Oper) (hi : ops[i]? = some o) (t : Tmp) (ht : o.dst = some t) : t < n := by
  unfold fitB at h
  rw [List.all_eq_true] at h
  have h1 := h o (by rw [List.mem_iff_getElem?]; exact ⟨i, by simpa using hi⟩)
  rw [ht] at h1
  simpa using h1
def outB (ops : Array Oper) (t : Tmp) : Bool := ops.toList.all fun o => o.dst != some t
theorem outB_spec {t : Tmp} (h : outB ops t = true) (i : Nat) (o : Oper) (hi : ops[i]? = some o) : o.dst ≠ some t := by
  unfold outB at h
  rw [List.all_eq_true] at h
  have h1 := h o (by rw [List.mem_iff_getElem?]; exact ⟨i, by simpa using hi⟩)
  simpa using h1
theorem ob {t : Tmp} (h : outB ops t = true := by kernel_rfl) : ∀ (i : Nat) (o : Oper), ops[i]? = some o → o.dst ≠ some t := outB_spec h
theorem wanted_of {o oj : Oper} {a : Act} {j : Nat} {b : Bool} {t : Tmp} (hgd : o.guard = some (j, b)) (hj : ops[j]? = some oj) (ht : oj.dst = some t) (hv : a.tmps.getD t undef = .bool b) : Region.wanted o (yielded ops a.tmps) = true := by
  have h1 : a.tmps[t]? = some (.bool b) := by
    rw [Array.getD_eq_getD_getElem?] at hv
    cases h : a.tmps[t]? with
    | none => rw [h] at hv; cases hv
    | some x => rw [h] at hv; simp at hv; rw [hv]
  unfold Region.wanted yielded
  simp [hgd, hj, ht, h1]
theorem wp_mv {o : Oper} {a : Act} {w : World} {K : Act → World → Prop} (x : Operand) (ho : o.op = .move x) (h : K (a.put o.dst (a.eval x)) w) : o.wp P a w K Q := by
  unfold Oper.wp execOp
  simp only [ho]
  exact h
theorem wp_mw {o : Oper} {a : Act} {w : World} {K : Act → World → Prop} {v : Value} (x : Operand) (ho : o.op = .move x) (hv : a.eval x = v) (h : K (a.put o.dst v) w) : o.wp P a w K Q := wp_mv x ho (by rw [hv]; exact h)
end
end Go.Proofs.Ytmjfnpmnhehnkaa
namespace Go.Proofs.Ytmjfnpmnhehnkaa
open Go.RowKit
section
variable {P : Program} {ops : Array Oper} {Q : Exit → Act → World → Prop} {a0 : Act} {val : Nat → Value} {I : Array Bool → World → Prop}
structure Sv (ops : Array Oper) (a0 : Act) (val : Nat → Value) (I : Array Bool → World → Prop) (listed : Array Bool) (a : Act) (w : World) : Prop where
  inv : I listed w
  defers : a.defers = a0.defers
  size : a.tmps.size = a0.tmps.size
  done : ∀ (i : Nat) (o : Oper), ops[i]? = some o → listed.getD i false = true → ∀ t, o.dst = some t → a.tmps.getD t undef = val i
  rest : ∀ t, (∀ (i : Nat) (o : Oper), ops[i]? = some o → listed.getD i false = true → o.dst ≠ some t) → a.tmps.getD t undef = a0.tmps.getD t undef
def AskV (P : Program) (ops : Array Oper) (Q : Exit → Act → World → Prop) (a0 : Act) (val : Nat → Value) (I : Array Bool → World → Prop) (i : Nat) (o : Oper) : Prop :=
  ∀ listed a w, I listed w → a.tmps.size = a0.tmps.size → listed.size = ops.size → listed.getD i false = false →
    (∀ e, e ∈ o.after → Region.binds .any e = true → listed.getD e.on false = true ∧ ∀ oj, ops[e.on]? = some oj → ∀ t, oj.dst = some t → a.tmps.getD t undef = val e.on) →
    (∀ t, (∀ (j : Nat) oj, ops[j]? = some oj → oj.dst ≠ some t) → a.tmps.getD t undef = a0.tmps.getD t undef) →
    if Region.wanted o (yielded ops a.tmps) = true then ∀ K : Act → World → Prop, (∀ w', I (listed.setIfInBounds i true) w' → K (a.put o.dst (val i)) w') → o.wp P a w K Q else val i = undef ∧ I (listed.setIfInBounds i true) w
theorem Sv.step (hd : dstB ops = true) {listed : Array Bool} {a : Act} {w : World} (h : Sv ops a0 val I listed a w) {i : Nat} {o : Oper} (hi : ops[i]? = some o) (hn : listed.getD i false = false) (hlt : i < listed.size)
    (hfit : ∀ t, o.dst = some t → t < a0.tmps.size) {w' : World} (hv : I (listed.setIfInBounds i true) w') : Sv ops a0 val I (listed.setIfInBounds i true) (a.put o.dst (val i)) w' := by
  refine ⟨hv, ?_, ?_, ?_, ?_⟩
  · cases o.dst <;> exact h.defers
  · cases o.dst with
    | none => exact h.size
    | some d => simpa [Act.put] using h.size
  · intro j oj hj hl
    rcases listed_set hl with rfl | hl'
    · rw [hi] at hj; cases hj
      intro t ht
      have := hfit t ht
      rw [ht]
      simp [Act.put, h.size, this]
    have hne : i ≠ j := by rintro rfl; rw [hn] at hl'; cases hl'
    intro t ht
    rw [getD_put _ _ _ _ (dstB_ne hd (Ne.symm hne) hj hi ht)]
    exact h.done j oj hj hl' t ht
  intro t ht
  have h1 : o.dst ≠ some t := by
    refine ht i o hi ?_
    simp [hlt]
  rw [getD_put _ _ _ _ h1]
  exact h.rest t fun j oj hj hl => ht j oj hj (by
    by_cases e : i = j
    · subst e; rw [hn] at hl; cases hl
    · simpa [Array.getElem?_setIfInBounds_ne e] using hl)
theorem flow_inv (hb : backB ops = true) (hd : dstB ops = true)
    (hfit : ∀ (i : Nat) (o : Oper), ops[i]? = some o → ∀ t, o.dst = some t → t < a0.tmps.size)
    (H : ∀ (i : Nat) (o : Oper), ops[i]? = some o → AskV P ops Q a0 val I i o)
    (L : ∀ listed a w, (∀ i, i < ops.size → listed.getD i false = true) → I listed w → a.defers = a0.defers → a.tmps.size = a0.tmps.size → (∀ (i : Nat) (o : Oper), ops[i]? = some o → ∀ t, o.dst = some t → a.tmps.getD t undef = val i) →
      (∀ t, (∀ (i : Nat) (o : Oper), ops[i]? = some o → o.dst ≠ some t) → a.tmps.getD t undef = a0.tmps.getD t undef) → Q .normal a w) :
    ∀ fuel listed a w, listed.size = ops.size → unl listed ≤ fuel → Sv ops a0 val I listed a w → wpAny P .any ops Q fuel listed a w := by
  intro fuel
  induction fuel with
  | zero =>
    intro listed a w hs hu h
    have hall : ∀ i, i < ops.size → listed.getD i false = true := by
      intro i hi
      cases h2 : listed.getD i false with
      | true => rfl
      | false => have := unl_pos (i := i) (by omega) h2; omega
    refine any_end (fun i hi => ?_) (L listed a w hall h.inv h.defers h.size (fun i o ho => h.done i o ho (hall i (Array.getElem?_eq_some_iff.1 ho).1)) (fun t ht => h.rest t fun i o ho _ => ht i o ho)) 0
    have h3 := hall i hi
    have : i < listed.size := by omega
    simpa [this] using h3
  | succ f ih =>
    intro listed a w hs hu h
    by_cases hq : ∀ i, i < ops.size → listed.getD i false = true
    · refine any_end (fun i hi => ?_) (L listed a w hq h.inv h.defers h.size (fun i o ho => h.done i o ho (hq i (Array.getElem?_eq_some_iff.1 ho).1)) (fun t ht => h.rest t fun i o ho _ => ht i o ho)) (f + 1)
      have h3 := hq i hi
      have : i < listed.size := by omega
      simpa [this] using h3
    · have ⟨n, hn, hnl⟩ : ∃ n, n < ops.size ∧ listed.getD n false = false := by
        apply Classical.byContradiction
        intro hc
        apply hq
        intro i hi
        cases h2 : listed.getD i false with
        | true => rfl
        | false => exact absurd ⟨i, hi, h2⟩ hc
      refine ⟨fun h0 => ?_, fun i hi => ?_⟩
      · obtain ⟨j, hj⟩ := least_ready hb hs n hn hnl
        rw [h0] at hj; cases hj
      · obtain ⟨hun, o, ho, hall⟩ := mem_ready.1 hi
        have hlt : i < ops.size := (Array.getElem?_eq_some_iff.1 ho).1
        have hil : i < listed.size := by omega
        have hun' : listed.getD i false = false := by simpa [hil] using hun
        have hq := H i o ho listed a w h.inv h.size hs hun' (fun e he hbd => ⟨hall e he hbd, fun oj hoj => h.done e.on oj hoj (hall e he hbd)⟩) (fun t ht => h.rest t fun j oj hoj _ => ht j oj hoj)
        have key : ∀ w', I (listed.setIfInBounds i true) w' → wpAny P .any ops Q f (listed.setIfInBounds i true) (a.put o.dst (val i)) w' := fun w' hv =>
          ih _ _ _ (by simpa using hs) (by have := unl_set hil hun'; omega) (h.step hd ho hun' hil (hfit i o ho) hv)
        unfold wpOp
        simp only [ho]
        split
        · rename_i hw
          rw [if_pos hw] at hq
          exact .inl (hq _ key)
        · rename_i hw
          rw [if_neg hw] at hq
          have := key w hq.2
          rw [hq.1] at this
          exact this
theorem wp_region_inv {w0 : World} {id : Nat} {l : List Oper} (val : Nat → Value) (I : Array Bool → World → Prop) (hm : P.follows .mixedOrders = true) (hb : backB l.toArray = true) (hd : dstB l.toArray = true)
    (hfit : ∀ (i : Nat) (o : Oper), l.toArray[i]? = some o → ∀ t, o.dst = some t → t < a0.tmps.size)
    (h0 : ∀ listed, (∀ i, listed.getD i false = false) → I listed w0.drew)
    (H : ∀ (i : Nat) (o : Oper), l.toArray[i]? = some o → AskV P l.toArray Q a0 val I i o)
    (L : ∀ listed a w, (∀ i, i < l.toArray.size → listed.getD i false = true) → I listed w → a.defers = a0.defers → a.tmps.size = a0.tmps.size → (∀ (i : Nat) (o : Oper), l.toArray[i]? = some o → ∀ t, o.dst = some t → a.tmps.getD t undef = val i) →
      (∀ t, (∀ (i : Nat) (o : Oper), l.toArray[i]? = some o → o.dst ≠ some t) → a.tmps.getD t undef = a0.tmps.getD t undef) → Q .normal a w) :
    (Code.region id l.toArray true).wp P Q a0 w0 := by
  refine wp_region_any hm ?_
  have hz : ∀ i, (Array.replicate l.toArray.size false).getD i false = false := by
    intro i
    rw [Array.getD_eq_getD_getElem?, Array.getElem?_replicate]
    split <;> rfl
  refine flow_inv hb hd hfit H L _ _ _ _ (by simp) ?_ ⟨h0 _ hz, rfl, rfl, ?_, fun _ _ => rfl⟩
  · unfold unl
    refine Nat.le_trans List.countP_le_length ?_
    simp
  intro i o hi hli
  rw [hz i] at hli; cases hli
def putAll (val : Nat → Value) : Nat → List Oper → Act → Act
  | _, [], a => a
  | i, o :: r, a => putAll val (i + 1) r (a.put o.dst (val i))
theorem put_size (a : Act) (d : Option Tmp) (v : Value) : (a.put d v).tmps.size = a.tmps.size := by cases d <;> simp [Act.put]
theorem put_defers (a : Act) (d : Option Tmp) (v : Value) : (a.put d v).defers = a.defers := by cases d <;> rfl
theorem putAll_defers (val : Nat → Value) : ∀ (l : List Oper) (i : Nat) (a : Act), (putAll val i l a).defers = a.defers
  | [], _, _ => rfl
  | o :: r, i, a => (putAll_defers val r (i + 1) _).trans (put_defers a o.dst _)
theorem putAll_size (val : Nat → Value) : ∀ (l : List Oper) (i : Nat) (a : Act), (putAll val i l a).tmps.size = a.tmps.size
  | [], _, _ => rfl
  | o :: r, i, a => (putAll_size val r (i + 1) _).trans (put_size a o.dst _)
theorem putAll_none (val : Nat → Value) (t : Tmp) : ∀ (l : List Oper) (i : Nat) (a : Act), (∀ o, o ∈ l → o.dst ≠ some t) → (putAll val i l a).tmps.getD t undef = a.tmps.getD t undef
  | [], _, _, _ => rfl
  | o :: r, i, a, h => (putAll_none val t r (i + 1) _ fun o' h' => h o' (List.mem_cons_of_mem _ h')).trans (getD_put a _ _ _ (h o List.mem_cons_self))
theorem putAll_one (val : Nat → Value) (t : Tmp) : ∀ (l : List Oper) (i j : Nat) (a : Act) (o : Oper), l[j]? = some o → o.dst = some t → (∀ k o', l[k]? = some o' → k ≠ j → o'.dst ≠ some t) → t < a.tmps.size → (putAll val i l a).tmps.getD t undef = val (i + j)
  | [], _, _, _, _, h, _, _, _ => by simp at h
  | x :: r, i, 0, a, o, h, ht, hu, hs => by
    obtain rfl : x = o := by simpa using h
    refine (putAll_none val t r (i + 1) _ fun o' h' => ?_).trans ?_
    · obtain ⟨k, hk, e⟩ := List.getElem_of_mem h'
      exact hu (k + 1) o' (by simp [List.getElem?_cons_succ, hk, e]) (by omega)
    · rw [ht]; simp [Act.put, hs]
  | x :: r, i, j + 1, a, o, h, ht, hu, hs => by
    refine (putAll_one val t r (i + 1) j _ o (by simpa using h) ht (fun k o' hk hne => hu (k + 1) o' (by simpa using hk) (by omega)) (by rw [put_size]; exact hs)).trans ?_
    rw [show i + 1 + j = i + (j + 1) by omega]
theorem act_ext {a b : Act} (h1 : a.tmps.size = b.tmps.size) (h2 : ∀ t, a.tmps.getD t undef = b.tmps.getD t undef) (h3 : a.defers = b.defers) : a = b := by
  obtain ⟨x, y⟩ := a
  obtain ⟨x', y'⟩ := b
  obtain rfl : y = y' := h3
  have : x = x' := by
    refine Array.ext h1 fun i hi hj => ?_
    have := h2 i
    simpa [Array.getD_eq_getD_getElem?, hi, hj] using this
  rw [this]
theorem act_all (l : List Oper) (hd : dstB l.toArray = true) {a : Act} (hdef : a.defers = a0.defers) (hsz : a.tmps.size = a0.tmps.size)
    (hfit : ∀ (i : Nat) (o : Oper), l.toArray[i]? = some o → ∀ t, o.dst = some t → t < a0.tmps.size)
    (h1 : ∀ (i : Nat) (o : Oper), l.toArray[i]? = some o → ∀ t, o.dst = some t → a.tmps.getD t undef = val i)
    (h2 : ∀ t, (∀ (i : Nat) (o : Oper), l.toArray[i]? = some o → o.dst ≠ some t) → a.tmps.getD t undef = a0.tmps.getD t undef) : a = putAll val 0 l a0 := by
  refine act_ext (hsz.trans (putAll_size ..).symm) (fun t => ?_) (hdef.trans (putAll_defers ..).symm)
  by_cases h : ∃ (i : Nat) (o : Oper), l.toArray[i]? = some o ∧ o.dst = some t
  · obtain ⟨i, o, ho, ht⟩ := h
    rw [h1 i o ho t ht, putAll_one val t l 0 i a0 o (by simpa using ho) ht (fun k o' hk hne => dstB_ne hd (Ne.symm hne) (by simpa using ho) (by simpa using hk) ht) (hfit i o ho t ht), Nat.zero_add]
  have hn : ∀ (i : Nat) (o : Oper), l.toArray[i]? = some o → o.dst ≠ some t := fun i o ho e => h ⟨i, o, ho, e⟩
  rw [h2 t hn, putAll_none]
  intro o ho
  obtain ⟨k, hk, e⟩ := List.getElem_of_mem ho
  exact hn k o (by simp [hk, e])
theorem wp_region_val {w0 : World} {id : Nat} {l : List Oper} (val : Nat → Value) (I : Array Bool → World → Prop) (hm : P.follows .mixedOrders = true) (hb : backB l.toArray = true) (hd : dstB l.toArray = true)
    (hfit : ∀ (i : Nat) (o : Oper), l.toArray[i]? = some o → ∀ t, o.dst = some t → t < a0.tmps.size)
    (h0 : ∀ listed, (∀ i, listed.getD i false = false) → I listed w0.drew)
    (H : ∀ (i : Nat) (o : Oper), l.toArray[i]? = some o → AskV P l.toArray Q a0 val I i o)
    (L : ∀ listed w, (∀ i, i < l.toArray.size → listed.getD i false = true) → I listed w → Q .normal (putAll val 0 l a0) w) :
    (Code.region id l.toArray true).wp P Q a0 w0 :=
  wp_region_inv val I hm hb hd hfit h0 H fun listed a w hall hI hdef hsz h1 h2 => by
    rw [act_all l hd hdef hsz hfit h1 h2]
    exact L listed w hall hI
theorem not_wanted {o oj : Oper} {a : Act} {j : Nat} {b b' : Bool} {t : Tmp} (hgd : o.guard = some (j, b)) (hj : ops[j]? = some oj) (ht : oj.dst = some t) (hv : a.tmps.getD t undef = .bool b') (hne : b' ≠ b) : ¬ Region.wanted o (yielded ops a.tmps) = true := by
  have h1 : a.tmps[t]? = some (.bool b') := by
    rw [Array.getD_eq_getD_getElem?] at hv
    cases h : a.tmps[t]? with
    | none => rw [h] at hv; cases hv
    | some x => rw [h] at hv; simp at hv; rw [hv]
  unfold Region.wanted yielded
  simp [hgd, hj, ht, h1]
  exact hne
theorem bit_set {l : Array Bool} {i j : Nat} (h : i ≠ j) : (l.setIfInBounds i true).getD j false = l.getD j false := gset h false
theorem bit_new {l : Array Bool} {i : Nat} (h : i < l.size) : (l.setIfInBounds i true).getD i false = true := by simp [h]
end
end Go.Proofs.Ytmjfnpmnhehnkaa
namespace Go.Proofs.Ytmjfnpmnhehnkaa
open Go.RowKit
def upd (f : Nat → Value) (i : Nat) (v : Value) : Nat → Value := fun j => if j = i then v else f j
theorem upd_same (f : Nat → Value) (i : Nat) (v : Value) : upd f i v i = v := if_pos rfl
theorem upd_ne (f : Nat → Value) {i j : Nat} (v : Value) (h : j ≠ i) : upd f i v j = f j := if_neg h
section
variable {P : Program} {ops : Array Oper} {Q : Exit → Act → World → Prop} {a0 : Act} {J : Array Bool → (Nat → Value) → World → Prop}
structure Sg (ops : Array Oper) (a0 : Act) (J : Array Bool → (Nat → Value) → World → Prop) (f : Nat → Value) (listed : Array Bool) (a : Act) (w : World) : Prop where
  inv : J listed f w
  defers : a.defers = a0.defers
  size : a.tmps.size = a0.tmps.size
  done : ∀ (i : Nat) (o : Oper), ops[i]? = some o → listed.getD i false = true → ∀ t, o.dst = some t → a.tmps.getD t undef = f i
  rest : ∀ t, (∀ (i : Nat) (o : Oper), ops[i]? = some o → listed.getD i false = true → o.dst ≠ some t) → a.tmps.getD t undef = a0.tmps.getD t undef
  closed : ∀ (i : Nat) (o : Oper), ops[i]? = some o → listed.getD i false = true → ∀ e, e ∈ o.after → Region.binds .any e = true → listed.getD e.on false = true
def AskG (P : Program) (ops : Array Oper) (Q : Exit → Act → World → Prop) (a0 : Act) (J : Array Bool → (Nat → Value) → World → Prop) (i : Nat) (o : Oper) : Prop :=
  ∀ listed f a w, J listed f w → a.tmps.size = a0.tmps.size → listed.size = ops.size → listed.getD i false = false →
    (∀ e, e ∈ o.after → Region.binds .any e = true → listed.getD e.on false = true ∧ ∀ oj, ops[e.on]? = some oj → ∀ t, oj.dst = some t → a.tmps.getD t undef = f e.on) →
    (∀ t, (∀ (j : Nat) oj, ops[j]? = some oj → oj.dst ≠ some t) → a.tmps.getD t undef = a0.tmps.getD t undef) →
    (∀ (t : Tmp) (j : Nat) (oj : Oper), ops[j]? = some oj → oj.dst = some t → (∃ e, e ∈ oj.after ∧ Region.binds .any e = true ∧ e.on = i) → a.tmps.getD t undef = a0.tmps.getD t undef) →
    if Region.wanted o (yielded ops a.tmps) = true then ∀ K : Act → World → Prop, (∀ v w', J (listed.setIfInBounds i true) (upd f i v) w' → K (a.put o.dst v) w') → o.wp P a w K Q else J (listed.setIfInBounds i true) (upd f i undef) w
theorem Sg.step (hd : dstB ops = true) {f : Nat → Value} {listed : Array Bool} {a : Act} {w : World} (h : Sg ops a0 J f listed a w) {i : Nat} {o : Oper} (hi : ops[i]? = some o) (hn : listed.getD i false = false) (hlt : i < listed.size) (hcl : ∀ e, e ∈ o.after → Region.binds .any e = true → listed.getD e.on false = true)
    (hfit : ∀ t, o.dst = some t → t < a0.tmps.size) {v : Value} {w' : World} (hv : J (listed.setIfInBounds i true) (upd f i v) w') : Sg ops a0 J (upd f i v) (listed.setIfInBounds i true) (a.put o.dst v) w' := by
  refine ⟨hv, ?_, ?_, ?_, ?_, ?_⟩
  · cases o.dst <;> exact h.defers
  · cases o.dst with
    | none => exact h.size
    | some d => simpa [Act.put] using h.size
  · intro j oj hj hl
    rcases listed_set hl with rfl | hl'
    · rw [hi] at hj; cases hj
      intro t ht
      have := hfit t ht
      rw [ht, upd_same]
      simp [Act.put, h.size, this]
    have hne : i ≠ j := by rintro rfl; rw [hn] at hl'; cases hl'
    intro t ht
    rw [getD_put _ _ _ _ (dstB_ne hd (Ne.symm hne) hj hi ht), upd_ne _ _ (Ne.symm hne)]
    exact h.done j oj hj hl' t ht
  · intro t ht
    have h1 : o.dst ≠ some t := by
      refine ht i o hi ?_
      simp [hlt]
    rw [getD_put _ _ _ _ h1]
    exact h.rest t fun j oj hj hl => ht j oj hj (by
      by_cases e : i = j
      · subst e; rw [hn] at hl; cases hl
      · simpa [Array.getElem?_setIfInBounds_ne e] using hl)
  intro j oj hj hl e he hb
  have mono : ∀ k, listed.getD k false = true → (listed.setIfInBounds i true).getD k false = true := fun k hk => by
    by_cases h1 : i = k
    · subst h1; rw [hn] at hk; cases hk
    · rw [gset h1 false]; exact hk
  rcases listed_set hl with rfl | hl'
  · rw [hi] at hj; cases hj
    exact mono _ (hcl e he hb)
  exact mono _ (h.closed j oj hj hl' e he hb)
theorem flow_gen (hb : backB ops = true) (hd : dstB ops = true)
    (hfit : ∀ (i : Nat) (o : Oper), ops[i]? = some o → ∀ t, o.dst = some t → t < a0.tmps.size)
    (H : ∀ (i : Nat) (o : Oper), ops[i]? = some o → AskG P ops Q a0 J i o)
    (L : ∀ listed f a w, (∀ i, i < ops.size → listed.getD i false = true) → J listed f w → a.defers = a0.defers → a.tmps.size = a0.tmps.size → (∀ (i : Nat) (o : Oper), ops[i]? = some o → ∀ t, o.dst = some t → a.tmps.getD t undef = f i) →
      (∀ t, (∀ (i : Nat) (o : Oper), ops[i]? = some o → o.dst ≠ some t) → a.tmps.getD t undef = a0.tmps.getD t undef) → Q .normal a w) :
    ∀ fuel f listed a w, listed.size = ops.size → unl listed ≤ fuel → Sg ops a0 J f listed a w → wpAny P .any ops Q fuel listed a w := by
  intro fuel
  induction fuel with
  | zero =>
    intro f listed a w hs hu h
    have hall : ∀ i, i < ops.size → listed.getD i false = true := by
      intro i hi
      cases h2 : listed.getD i false with
      | true => rfl
      | false => have := unl_pos (i := i) (by omega) h2; omega
    refine any_end (fun i hi => ?_) (L listed f a w hall h.inv h.defers h.size (fun i o ho => h.done i o ho (hall i (Array.getElem?_eq_some_iff.1 ho).1)) (fun t ht => h.rest t fun i o ho _ => ht i o ho)) 0
    have h3 := hall i hi
    have : i < listed.size := by omega
    simpa [this] using h3
  | succ fl ih =>
    intro f listed a w hs hu h
    by_cases hq : ∀ i, i < ops.size → listed.getD i false = true
    · refine any_end (fun i hi => ?_) (L listed f a w hq h.inv h.defers h.size (fun i o ho => h.done i o ho (hq i (Array.getElem?_eq_some_iff.1 ho).1)) (fun t ht => h.rest t fun i o ho _ => ht i o ho)) (fl + 1)
      have h3 := hq i hi
      have : i < listed.size := by omega
      simpa [this] using h3
    · have ⟨n, hn, hnl⟩ : ∃ n, n < ops.size ∧ listed.getD n false = false := by
        apply Classical.byContradiction
        intro hc
        apply hq
        intro i hi
        cases h2 : listed.getD i false with
        | true => rfl
        | false => exact absurd ⟨i, hi, h2⟩ hc
      refine ⟨fun h0 => ?_, fun i hi => ?_⟩
      · obtain ⟨j, hj⟩ := least_ready hb hs n hn hnl
        rw [h0] at hj; cases hj
      · obtain ⟨hun, o, ho, hall⟩ := mem_ready.1 hi
        have hlt : i < ops.size := (Array.getElem?_eq_some_iff.1 ho).1
        have hil : i < listed.size := by omega
        have hun' : listed.getD i false = false := by simpa [hil] using hun
        have hq := H i o ho listed f a w h.inv h.size hs hun' (fun e he hbd => ⟨hall e he hbd, fun oj hoj => h.done e.on oj hoj (hall e he hbd)⟩) (fun t ht => h.rest t fun j oj hoj _ => ht j oj hoj) (fun t j oj hoj hd' ⟨e, he, hbd, hon⟩ => h.rest t fun k ok hok hlk => by
          by_cases h1 : k = j
          · rw [h1] at hlk
            have := h.closed j oj hoj hlk e he hbd
            rw [hon, hun'] at this; cases this
          · exact dstB_ne hd (Ne.symm h1) hoj hok hd')
        have key : ∀ v w', J (listed.setIfInBounds i true) (upd f i v) w' → wpAny P .any ops Q fl (listed.setIfInBounds i true) (a.put o.dst v) w' := fun v w' hv =>
          ih _ _ _ _ (by simpa using hs) (by have := unl_set hil hun'; omega) (h.step hd ho hun' hil hall (hfit i o ho) hv)
        unfold wpOp
        simp only [ho]
        split
        · rename_i hw
          rw [if_pos hw] at hq
          exact .inl (hq _ key)
        · rename_i hw
          rw [if_neg hw] at hq
          exact key _ w hq
theorem wp_region_gen {w0 : World} {id : Nat} {l : List Oper} (J : Array Bool → (Nat → Value) → World → Prop) (hm : P.follows .mixedOrders = true) (hb : backB l.toArray = true) (hd : dstB l.toArray = true)
    (hfit : ∀ (i : Nat) (o : Oper), l.toArray[i]? = some o → ∀ t, o.dst = some t → t < a0.tmps.size)
    (h0 : ∀ listed f, (∀ i, listed.getD i false = false) → J listed f w0.drew)
    (H : ∀ (i : Nat) (o : Oper), l.toArray[i]? = some o → AskG P l.toArray Q a0 J i o)
    (L : ∀ listed f w, (∀ i, i < l.toArray.size → listed.getD i false = true) → J listed f w → Q .normal (putAll f 0 l a0) w) :
    (Code.region id l.toArray true).wp P Q a0 w0 := by
  refine wp_region_any hm ?_
  have hz : ∀ i, (Array.replicate l.toArray.size false).getD i false = false := by
    intro i
    rw [Array.getD_eq_getD_getElem?, Array.getElem?_replicate]
    split <;> rfl
  refine flow_gen hb hd hfit H (fun listed f a w hall hI hdef hsz h1 h2 => by
    rw [act_all l hd hdef hsz hfit h1 h2]
    exact L listed f w hall hI) _ (fun _ => undef) _ _ _ (by simp) ?_ ⟨h0 _ _ hz, rfl, rfl, ?_, fun _ _ => rfl, ?_⟩
  · unfold unl
    refine Nat.le_trans List.countP_le_length ?_
    simp
  · intro i o hi hli
    rw [hz i] at hli; cases hli
  intro i o hi hli
  rw [hz i] at hli; cases hli
end
structure JP (base : World) (φ : Nat → Value → World → Prop) (S : Array Bool → (Nat → Value) → World → Prop) (listed : Array Bool) (f : Nat → Value) (w : World) : Prop where
  ext : Ex base w
  vals : ∀ i, listed.getD i false = true → φ i (f i) w
  priv : S listed f w
theorem JP.next {base : World} {φ : Nat → Value → World → Prop} {S : Array Bool → (Nat → Value) → World → Prop} {listed : Array Bool} {f : Nat → Value} {w w' : World} (h : JP base φ S listed f w) {i : Nat} {v : Value}
    (hst : ∀ j u, φ j u w → φ j u w') (hx : Ex base w') (hv : φ i v w') (hS : S (listed.setIfInBounds i true) (upd f i v) w') : JP base φ S (listed.setIfInBounds i true) (upd f i v) w' := by
  refine ⟨hx, fun j hj => ?_, hS⟩
  by_cases e : j = i
  · subst e; rw [upd_same]; exact hv
  rw [upd_ne _ _ e]
  rcases listed_set hj with rfl | hj
  · exact absurd rfl e
  exact hst _ _ (h.vals j hj)
end Go.Proofs.Ytmjfnpmnhehnkaa
