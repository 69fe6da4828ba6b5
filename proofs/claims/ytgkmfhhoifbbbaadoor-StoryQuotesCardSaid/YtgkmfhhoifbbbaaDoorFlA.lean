/- A region that draws its order: an assertion for each operation. -/
import Derived.Deep.Quiet
import Derived.WalkKit
import Derived.Below
namespace Go.Proofs.YtgkmfhhoifbbbaaDoor
open Go.RowKit
def Ex (w w' : World) : Prop := Below w.heap.size w w'
theorem Ex.refl (w : World) : Ex w w := Below.refl _ _
theorem Ex.trans {a b c : World} (h : Ex a b) (k : Ex b c) : Ex a c := Below.trans h (k.mono h.size)
section
variable {P : Program} {ops : Array Oper} {Q : Exit → Act → World → Prop} {a0 : Act} {w0 : World} {φ : Nat → Value → World → Prop}
/-- what has come up: each with its assertion -/
structure St (ops : Array Oper) (a0 : Act) (w0 : World) (φ : Nat → Value → World → Prop) (listed : Array Bool) (a : Act) (w : World) : Prop where
  ext : Ex w0 w
  defers : a.defers = a0.defers
  size : a.tmps.size = a0.tmps.size
  done : ∀ i o, ops[i]? = some o → listed.getD i false = true → ∃ v, φ i v w ∧ ∀ t, o.dst = some t → a.tmps.getD t undef = v
  rest : ∀ t, (∀ i o, ops[i]? = some o → listed.getD i false = true → o.dst ≠ some t) → a.tmps.getD t undef = a0.tmps.getD t undef
  closed : ∀ i o, ops[i]? = some o → listed.getD i false = true → ∀ e, e ∈ o.after → Region.binds .any e = true → listed.getD e.on false = true
/-- what is asked of one operation -/
def Ask (P : Program) (ops : Array Oper) (Q : Exit → Act → World → Prop) (a0 : Act) (w0 : World) (φ : Nat → Value → World → Prop) (i : Nat) (o : Oper) : Prop :=
  ∀ a w, Ex w0 w → a.tmps.size = a0.tmps.size →
    (∀ e, e ∈ o.after → Region.binds .any e = true → ∀ oj, ops[e.on]? = some oj → ∃ v, φ e.on v w ∧ ∀ t, oj.dst = some t → a.tmps.getD t undef = v) →
    (∀ t, (∀ (j : Nat) oj, ops[j]? = some oj → oj.dst ≠ some t) → a.tmps.getD t undef = a0.tmps.getD t undef) →
    if Region.wanted o (yielded ops a.tmps) = true then ∀ K : Act → World → Prop, (∀ v w', Ex w w' → φ i v w' → K (a.put o.dst v) w') → o.wp P a w K Q else φ i undef w
def backB (ops : Array Oper) : Bool := ops.toList.zipIdx.all fun x => x.1.after.toList.all fun e => !Region.binds .any e || decide (e.on < x.2)
def lastB (ops : Array Oper) (N : Nat) : Bool := (List.range N).all fun j => (List.range (N + 1)).any fun k => decide (j < k) && match ops[k]? with
  | none => false
  | some o => o.after.toList.any fun e => Region.binds .any e && e.on == j
def dstB (ops : Array Oper) : Bool := (List.range ops.size).all fun i => (List.range i).all fun j => match ops[i]?, ops[j]? with
  | some oi, some oj => oi.dst == none || oi.dst != oj.dst
  | _, _ => true
theorem dstB_lt (h : dstB ops = true) {i j : Nat} (hij : j < i) {oi oj : Oper} (hi : ops[i]? = some oi) (hj : ops[j]? = some oj) {t : Tmp} (ht : oi.dst = some t) : oj.dst ≠ some t := by
  unfold dstB at h
  rw [List.all_eq_true] at h
  have h1 := h i (by rw [List.mem_range]; exact (Array.getElem?_eq_some_iff.1 hi).1)
  rw [List.all_eq_true] at h1
  have h2 := h1 j (by rw [List.mem_range]; exact hij)
  simp only [hi, hj, ht] at h2
  intro e
  rw [e] at h2
  simp at h2
theorem dstB_ne (h : dstB ops = true) {i j : Nat} (hij : i ≠ j) {oi oj : Oper} (hi : ops[i]? = some oi) (hj : ops[j]? = some oj) {t : Tmp} (ht : oi.dst = some t) : oj.dst ≠ some t := by
  rcases Nat.lt_or_gt_of_ne hij with hlt | hlt
  · intro e; exact dstB_lt h hlt hj hi e ht
  · exact dstB_lt h hlt hi hj ht
theorem backB_spec (h : backB ops = true) {i : Nat} {o : Oper} (hi : ops[i]? = some o) {e : Edge} (he : e ∈ o.after) (hb : Region.binds .any e = true) : e.on < i := by
  unfold backB at h
  rw [List.all_eq_true] at h
  have h1 := h (o, i) (by
    rw [List.mem_zipIdx_iff_getElem?]
    simpa using hi)
  rw [List.all_eq_true] at h1
  have h2 := h1 e (by simpa using he)
  simpa [hb] using h2
theorem lastB_spec {N : Nat} (h : lastB ops N = true) {j : Nat} (hj : j < N) : ∃ k o, j < k ∧ k ≤ N ∧ ops[k]? = some o ∧ ∃ e, e ∈ o.after ∧ Region.binds .any e = true ∧ e.on = j := by
  unfold lastB at h
  simp only [List.all_eq_true, List.mem_range, List.any_eq_true] at h
  obtain ⟨k, h1, h2⟩ := h j hj
  rw [Bool.and_eq_true] at h2
  obtain ⟨h2, h3⟩ := h2
  have h2 : j < k := by simpa using h2
  cases ho : ops[k]? with
  | none => rw [ho] at h3; cases h3
  | some o =>
    rw [ho] at h3
    simp only [List.any_eq_true] at h3
    obtain ⟨e, h4, h5⟩ := h3
    simp at h5
    exact ⟨k, o, h2, by omega, ho, e, by simpa using h4, h5.1, h5.2⟩
theorem all_below {N : Nat} (hl : lastB ops N = true) {listed : Array Bool} {o : Oper} (ho : ops[N]? = some o) (hr : ∀ e, e ∈ o.after → Region.binds .any e = true → listed.getD e.on false = true)
    (hc : ∀ i o, ops[i]? = some o → listed.getD i false = true → ∀ e, e ∈ o.after → Region.binds .any e = true → listed.getD e.on false = true) : ∀ d j, j < N → N ≤ j + d → listed.getD j false = true := by
  intro d
  induction d with
  | zero => intro j h1 h2; omega
  | succ d ih =>
    intro j h1 h2
    obtain ⟨k, ok, h3, h4, h5, e, h6, h7, h8⟩ := lastB_spec hl h1
    rw [← h8]
    by_cases hk : k = N
    · subst hk
      rw [ho] at h5; cases h5
      exact hr e h6 h7
    · exact hc k ok h5 (ih k (by omega) (by omega)) e h6 h7
theorem getD_put (a : Act) (d : Option Tmp) (v : Value) (t : Tmp) (h : d ≠ some t) : (a.put d v).tmps.getD t undef = a.tmps.getD t undef := by
  cases d with
  | none => rfl
  | some d =>
    have hd : d ≠ t := fun e => h (by rw [e])
    simp [Act.put, Array.getElem?_setIfInBounds_ne hd]
theorem listed_set {l : Array Bool} {i j : Nat} (h : (l.setIfInBounds i true).getD j false = true) : j = i ∨ l.getD j false = true := by
  by_cases e : i = j
  · exact .inl e.symm
  · right
    simpa [Array.getElem?_setIfInBounds_ne e] using h
theorem St.step (hd : dstB ops = true) (hst : ∀ i v w w', φ i v w → Ex w w' → φ i v w') {listed : Array Bool} {a : Act} {w : World} (h : St ops a0 w0 φ listed a w) {i : Nat} {o : Oper} (hi : ops[i]? = some o) (hn : listed.getD i false = false) (hlt : i < listed.size) (hrd : ∀ e, e ∈ o.after → Region.binds .any e = true → listed.getD e.on false = true)
    (hfit : ∀ t, o.dst = some t → t < a0.tmps.size) {v : Value} {w' : World} (hw : Ex w w') (hv : φ i v w') : St ops a0 w0 φ (listed.setIfInBounds i true) (a.put o.dst v) w' := by
  refine ⟨h.ext.trans hw, ?_, ?_, ?_, ?_, ?_⟩
  · cases o.dst <;> exact h.defers
  · cases o.dst with
    | none => exact h.size
    | some d => simpa [Act.put] using h.size
  · intro j oj hj hl
    rcases listed_set hl with rfl | hl'
    · rw [hi] at hj; cases hj
      refine ⟨v, hv, fun t ht => ?_⟩
      have := hfit t ht
      rw [ht]
      simp [Act.put, h.size, this]
    · have hne : i ≠ j := by rintro rfl; rw [hn] at hl'; cases hl'
      obtain ⟨u, hu, hu2⟩ := h.done j oj hj hl'
      refine ⟨u, hst j u w w' hu hw, fun t ht => ?_⟩
      rw [getD_put _ _ _ _ (dstB_ne hd (Ne.symm hne) hj hi ht)]
      exact hu2 t ht
  · intro t ht
    have h1 : o.dst ≠ some t := by
      refine ht i o hi ?_
      simp [hlt]
    rw [getD_put _ _ _ _ h1]
    exact h.rest t fun j oj hj hl => ht j oj hj (by
      by_cases e : i = j
      · subst e; rw [hn] at hl; cases hl
      · simpa [Array.getElem?_setIfInBounds_ne e] using hl)
  · have up : ∀ j, listed.getD j false = true → (listed.setIfInBounds i true).getD j false = true := by
      intro j hj
      by_cases e : i = j
      · subst e; rw [hn] at hj; cases hj
      · simpa [Array.getElem?_setIfInBounds_ne e] using hj
    intro j oj hj hl e he hb
    rcases listed_set hl with rfl | hl'
    · rw [hi] at hj; cases hj
      exact up _ (hrd e he hb)
    · exact up _ (h.closed j oj hj hl' e he hb)
theorem gset {l : Array Bool} {i j : Nat} (h : i ≠ j) (d : Bool) : (l.setIfInBounds i true).getD j d = l.getD j d := by
  rw [Array.getD_eq_getD_getElem?, Array.getD_eq_getD_getElem?, Array.getElem?_setIfInBounds_ne h]
theorem least_ready (hb : backB ops = true) {listed : Array Bool} (hs : listed.size = ops.size) : ∀ i, i < ops.size → listed.getD i false = false → ∃ j, j ∈ Region.ready .any ops listed := by
  intro i
  induction i using Nat.strongRecOn with
  | _ i ih =>
    intro hi hl
    by_cases h : ∃ j, j < i ∧ listed.getD j false = false
    · obtain ⟨j, hj, hjl⟩ := h
      exact ih j hj (by omega) hjl
    · refine ⟨i, mem_ready.2 ⟨?_, ops[i], by simp [hi], fun e he hbd => ?_⟩⟩
      · have : i < listed.size := by omega
        simpa [this] using hl
      · have h1 := backB_spec hb (i := i) (o := ops[i]) (by simp [hi]) he hbd
        cases h2 : listed.getD e.on false with
        | true => rfl
        | false => exact absurd ⟨e.on, h1, h2⟩ h
def unl (listed : Array Bool) : Nat := listed.toList.countP (fun b => !b)
theorem unl_set {listed : Array Bool} {i : Nat} (hi : i < listed.size) (hn : listed.getD i false = false) : unl (listed.setIfInBounds i true) + 1 = unl listed := by
  unfold unl
  have hx : listed.toList[i]'(by simpa using hi) = false := by simpa [hi] using hn
  have hpos : 0 < listed.toList.countP (fun b => !b) := by
    rw [List.countP_pos_iff]
    exact ⟨false, by rw [← hx]; exact List.getElem_mem _, rfl⟩
  rw [Array.toList_setIfInBounds, List.countP_set (by simpa using hi), hx]
  simp only [Bool.not_false, Bool.not_true, if_true, Bool.false_eq_true, if_false]
  omega
theorem unl_pos {listed : Array Bool} {i : Nat} (hi : i < listed.size) (hn : listed.getD i false = false) : 0 < unl listed := by
  have := unl_set hi hn; omega
theorem any_end {listed : Array Bool} (hall : ∀ i, i < ops.size → listed.getD i true = true) {a : Act} {w : World} (h : Q .normal a w) : ∀ fuel, wpAny P .any ops Q fuel listed a w := by
  have hr : Region.ready .any ops listed = [] := by
    cases hq : Region.ready .any ops listed with
    | nil => rfl
    | cons j l =>
      have hj : j ∈ Region.ready .any ops listed := by rw [hq]; exact List.mem_cons_self
      obtain ⟨h1, o, ho, _⟩ := mem_ready.1 hj
      have h2 := hall j (Array.getElem?_eq_some_iff.1 ho).1
      rw [h1] at h2; cases h2
  intro fuel
  cases fuel with
  | zero => exact ⟨hr, h⟩
  | succ f => exact ⟨fun _ => h, fun i hi => by rw [hr] at hi; cases hi⟩
theorem wpOp_mono {i : Nat} {K K' : Act → World → Prop} (h : ∀ a w, K a w → K' a w) {a : Act} {w : World} (hh : wpOp P ops Q i K a w) : wpOp P ops Q i K' a w := by
  unfold wpOp at *
  split
  · rename_i h0; simp only [h0] at hh; exact h _ _ hh
  · rename_i o ho
    simp only [ho] at hh
    split
    · rename_i hw; simp only [hw, if_true] at hh
      rcases hh with hh | hh
      · exact .inl (Oper.wp_mono h hh)
      · exact .inr hh
    · rename_i hw; simp only [hw] at hh; exact h _ _ hh
theorem flow_go (N : Nat) (hN : ops.size = N + 1) (hb : backB ops = true) (hl : lastB ops N = true) (hd : dstB ops = true) (hst : ∀ i v w w', φ i v w → Ex w w' → φ i v w')
    (hfit : ∀ (i : Nat) (o : Oper), ops[i]? = some o → ∀ t, o.dst = some t → t < a0.tmps.size)
    (H : ∀ i o, i < N → ops[i]? = some o → Ask P ops Q a0 w0 φ i o)
    (L : ∀ a w, Ex w0 w → a.defers = a0.defers → a.tmps.size = a0.tmps.size → (∀ i o, i < N → ops[i]? = some o → ∃ v, φ i v w ∧ ∀ t, o.dst = some t → a.tmps.getD t undef = v) →
      (∀ t, (∀ i o, i < N → ops[i]? = some o → o.dst ≠ some t) → a.tmps.getD t undef = a0.tmps.getD t undef) → wpOp P ops Q N (Q .normal) a w) :
    ∀ fuel listed a w, listed.size = N + 1 → listed.getD N false = false → unl listed ≤ fuel → St ops a0 w0 φ listed a w → wpAny P .any ops Q fuel listed a w := by
  intro fuel
  induction fuel with
  | zero =>
    intro listed a w hs hn hu _
    have := unl_pos (i := N) (by omega) hn
    omega
  | succ f ih =>
    intro listed a w hs hn hu h
    refine ⟨fun h0 => ?_, fun i hi => ?_⟩
    · obtain ⟨j, hj⟩ := least_ready hb (by omega) N (by omega) hn
      rw [h0] at hj; cases hj
    · obtain ⟨hun, o, ho, hall⟩ := mem_ready.1 hi
      have hlt : i < ops.size := (Array.getElem?_eq_some_iff.1 ho).1
      have hil : i < listed.size := by omega
      have hun' : listed.getD i false = false := by simpa [hil] using hun
      by_cases hiN : i = N
      · subst hiN
        have hdone : ∀ j, j < i → listed.getD j false = true := fun j hj => all_below hl ho hall h.closed i j hj (by omega)
        refine wpOp_mono (fun a' w' hq => any_end (fun j hj => ?_) hq f) (L a w h.ext h.defers h.size (fun j oj hj hoj => h.done j oj hoj (hdone j hj)) (fun t ht => h.rest t fun j oj hoj hjl => ?_))
        · by_cases e : i = j
          · subst e; simp [hil]
          · have := hdone j (by omega)
            have hjs : j < listed.size := by omega
            rw [gset e]
            simpa [hjs] using this
        · by_cases e : j = i
          · subst e; rw [hun'] at hjl; cases hjl
          · exact ht j oj (by have := (Array.getElem?_eq_some_iff.1 hoj).1; omega) hoj
      · have hq := H i o (by omega) ho a w h.ext h.size (fun e he hbd oj hoj => h.done e.on oj hoj (hall e he hbd)) (fun t ht => h.rest t fun j oj hoj _ => ht j oj hoj)
        have key : ∀ v w', Ex w w' → φ i v w' → wpAny P .any ops Q f (listed.setIfInBounds i true) (a.put o.dst v) w' := fun v w' hw hv =>
          ih _ _ _ (by simpa using hs) (by rw [gset hiN]; exact hn) (by have := unl_set hil hun'; omega)
            (h.step hd hst ho hun' hil hall (hfit i o ho) hw hv)
        unfold wpOp
        simp only [ho]
        split
        · rename_i hw
          rw [if_pos hw] at hq
          exact .inl (hq _ key)
        · rename_i hw
          rw [if_neg hw] at hq
          exact key undef w (Ex.refl w) hq
theorem wp_region_flow (N : Nat) {id : Nat} {l : List Oper} (φ : Nat → Value → World → Prop) (hm : P.follows .mixedOrders = true) (hN : l.toArray.size = N + 1) (hb : backB l.toArray = true) (hl : lastB l.toArray N = true) (hd : dstB l.toArray = true)
    (hst : ∀ i v w w', φ i v w → Ex w w' → φ i v w')
    (hfit : ∀ (i : Nat) (o : Oper), l.toArray[i]? = some o → ∀ t, o.dst = some t → t < a0.tmps.size)
    (H : ∀ i o, i < N → l.toArray[i]? = some o → Ask P l.toArray Q a0 w0.drew φ i o)
    (L : ∀ a w, Ex w0.drew w → a.defers = a0.defers → a.tmps.size = a0.tmps.size → (∀ i o, i < N → l.toArray[i]? = some o → ∃ v, φ i v w ∧ ∀ t, o.dst = some t → a.tmps.getD t undef = v) →
      (∀ t, (∀ i o, i < N → l.toArray[i]? = some o → o.dst ≠ some t) → a.tmps.getD t undef = a0.tmps.getD t undef) → wpOp P l.toArray Q N (Q .normal) a w) :
    (Code.region id l.toArray true).wp P Q a0 w0 := by
  refine wp_region_any hm ?_
  refine flow_go (w0 := w0.drew) N hN hb hl hd hst hfit H L _ _ _ _ (by simp [hN]) ?_ ?_ ⟨Ex.refl _, rfl, rfl, ?_, fun _ _ => rfl, ?_⟩
  · simp [hN]
  · unfold unl
    refine Nat.le_trans List.countP_le_length ?_
    simp
  · intro i o hi hli
    have : i < l.toArray.size := (Array.getElem?_eq_some_iff.1 hi).1
    simp at this hli
    rw [Array.getElem?_replicate, if_pos (by simpa using this)] at hli
    cases hli
  · intro i o hi hli
    have : i < l.toArray.size := (Array.getElem?_eq_some_iff.1 hi).1
    simp at this hli
    rw [Array.getElem?_replicate, if_pos (by simpa using this)] at hli
    cases hli
def fitB (ops : Array Oper) (n : Nat) : Bool := ops.toList.all fun o => match o.dst with
  | none => true
  | some t => decide (t < n)
theorem fitB_spec {n : Nat} (h : fitB ops n = true) (i : Nat) (o : Oper) (hi : ops[i]? = some o) (t : Tmp) (ht : o.dst = some t) : t < n := by
  unfold fitB at h
  rw [List.all_eq_true] at h
  have h1 := h o (by rw [List.mem_iff_getElem?]; exact ⟨i, by simpa using hi⟩)
  rw [ht] at h1
  simpa using h1
def outB (ops : Array Oper) (t : Tmp) : Bool := ops.toList.all fun o => o.dst != some t
theorem outB_spec {t : Tmp} (h : outB ops t = true) (i : Nat) (o : Oper) (hi : ops[i]? = some o) : o.dst ≠ some t := by
  unfold outB at h
  rw [List.all_eq_true] at h
  have h1 := h o (by rw [List.mem_iff_getElem?]; exact ⟨i, by simpa using hi⟩)
  simpa using h1
theorem arr_range (A : Array Value) (n : Nat) (h : A.size = n) : A = ((List.range n).map fun t => A[t]?.getD undef).toArray := by
  apply Array.ext (by simp [h])
  intro i h1 h2
  simp [h1]
theorem wanted_of {o oj : Oper} {a : Act} {j : Nat} {b : Bool} {t : Tmp} (hgd : o.guard = some (j, b)) (hj : ops[j]? = some oj) (ht : oj.dst = some t) (hv : a.tmps.getD t undef = .bool b) : Region.wanted o (yielded ops a.tmps) = true := by
  have h1 : a.tmps[t]? = some (.bool b) := by
    rw [Array.getD_eq_getD_getElem?] at hv
    cases h : a.tmps[t]? with
    | none => rw [h] at hv; cases hv
    | some x => rw [h] at hv; simp at hv; rw [hv]
  unfold Region.wanted yielded
  simp [hgd, hj, ht, h1]
theorem wp_mv {o : Oper} {a : Act} {w : World} {K : Act → World → Prop} (x : Operand) (ho : o.op = .move x) (h : K (a.put o.dst (a.eval x)) w) : o.wp P a w K Q := by
  unfold Oper.wp execOp
  simp only [ho]
  exact h
end
end Go.Proofs.YtgkmfhhoifbbbaaDoor
