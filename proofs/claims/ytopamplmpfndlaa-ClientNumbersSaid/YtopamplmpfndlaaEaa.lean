/- FlA, FlV, FlG, Va -/
import Derived.Deep.Quiet
import Derived.WalkKit
import Derived.Below
import Derived.Test.YtopamplmpfndlaaChecked
import Derived.WalkSpells
import Derived.WalkLawsBesides
import Derived.LoopTactic
import Derived.Lib.Hide
import Derived.ProofKit
import Derived.OwnWalk
import Derived.Laws.AppendOwnNone
import Derived.Maps.AppendAt
import Derived.Lib.AppendZeros
import Derived.Deep.MidRow
import Derived.Laws.OwnMore
import Derived.ArgAppend
import Derived.ChangeKeysEq
import Derived.Laws.StructEq
import Derived.Lib.LaidU8
import Derived.Laws.BytesArg
import Derived.Lib.SliceRun
import Derived.StillTailTactics
import Derived.Deep.QuietTactic
import Derived.BigQuiet
import Derived.RegionTactic
import Derived.ChangeAlike
set_option maxRecDepth 100000
set_option maxHeartbeats 16000000
namespace Go.Proofs.Ytopamplmpfndlaa
open Go.RowKit
def Ex (w w' : World) : Prop := Below w.heap.size w w'
theorem Ex.refl (w : World) : Ex w w := Below.refl _ _
theorem Ex.trans {a b c : World} (h : Ex a b) (k : Ex b c) : Ex a c := Below.trans h (k.mono h.size)
section
variable {P : Program} {ops : Array Oper} {Q : Exit → Act → World → Prop} {a0 : Act} {w0 : World} {φ : Nat → Value → World → Prop}
structure St (ops : Array Oper) (a0 : Act) (w0 : World) (φ : Nat → Value → World → Prop) (listed : Array Bool) (a : Act) (w : World) : Prop where
  ext : Ex w0 w
  defers : a.defers = a0.defers
  size : a.tmps.size = a0.tmps.size
  done : ∀ i o, ops[i]? = some o → listed.getD i false = true → ∃ v, φ i v w ∧ ∀ t, o.dst = some t → a.tmps.getD t undef = v
  rest : ∀ t, (∀ i o, ops[i]? = some o → listed.getD i false = true → o.dst ≠ some t) → a.tmps.getD t undef = a0.tmps.getD t undef
  closed : ∀ i o, ops[i]? = some o → listed.getD i false = true → ∀ e, e ∈ o.after → Region.binds .any e = true → listed.getD e.on false = true
def Ask (P : Program) (ops : Array Oper) (Q : Exit → Act → World → Prop) (a0 : Act) (w0 : World) (φ : Nat → Value → World → Prop) (i : Nat) (o : Oper) : Prop :=
  ∀ a w, Ex w0 w → a.tmps.size = a0.tmps.size →
    (∀ e, e ∈ o.after → Region.binds .any e = true → ∀ oj, ops[e.on]? = some oj → ∃ v, φ e.on v w ∧ ∀ t, oj.dst = some t → a.tmps.getD t undef = v) →
    (∀ t, (∀ (j : Nat) oj, ops[j]? = some oj → oj.dst ≠ some t) → a.tmps.getD t undef = a0.tmps.getD t undef) →
    if Region.wanted o (yielded ops a.tmps) = true then ∀ K : Act → World → Prop, (∀ v w', Ex w w' → φ i v w' → K (a.put o.dst v) w') → o.wp P a w K Q else φ i undef w
def backB (ops : Array Oper) : Bool := ops.toList.zipIdx.all fun x => x.1.after.toList.all fun e => !Region.binds .any e || decide (e.on < x.2)
def lastB (ops : Array Oper) (N : Nat) : Bool := (List.range N).all fun j => (List.range (N + 1)).any fun k => decide (j < k) && match ops[k]? with
  | none => false
  | some o => o.after.toList.any fun e => Region.binds .any e && e.on == j
def dstB (ops : Array Oper) : Bool := (List.range ops.size).all fun i => (List.range i).all fun j => match ops[i]?, ops[j]? with
  | some oi, some oj => oi.dst == none || oi.dst != oj.dst
  | _, _ => true
theorem dstB_lt (h : dstB ops = true) {i j : Nat} (hij : j < i) {oi oj : Oper} (hi : ops[i]? = some oi) (hj : ops[j]? = some oj) {t : Tmp} (ht : oi.dst = some t) : oj.dst ≠ some t := by
  unfold dstB at h
  rw [List.all_eq_true] at h
  have h1 := h i (by rw [List.mem_range]; exact (Array.getElem?_eq_some_iff.1 hi).1)
  rw [List.all_eq_true] at h1
  have h2 := h1 j (by rw [List.mem_range]; exact hij)
  simp only [hi, hj, ht] at h2
  intro e
  rw [e] at h2
  simp at h2
theorem dstB_ne (h : dstB ops = true) {i j : Nat} (hij : i ≠ j) {oi oj : Oper} (hi : ops[i]? = some oi) (hj : ops[j]? = some oj) {t : Tmp} (ht : oi.dst = some t) : oj.dst ≠ some t := by
  rcases Nat.lt_or_gt_of_ne hij with hlt | hlt
  · intro e; exact dstB_lt h hlt hj hi e ht
  exact dstB_lt h hlt hi hj ht
theorem backB_spec (h : backB ops = true) {i : Nat} {o : Oper} (hi : ops[i]? = some o) {e : Edge} (he : e ∈ o.after) (hb : Region.binds .any e = true) : e.on < i := by
  unfold backB at h
  rw [List.all_eq_true] at h
  have h1 := h (o, i) (by
    rw [List.mem_zipIdx_iff_getElem?]
    simpa using hi)
  rw [List.all_eq_true] at h1
  have h2 := h1 e (by simpa using he)
  simpa [hb] using h2
theorem lastB_spec {N : Nat} (h : lastB ops N = true) {j : Nat} (hj : j < N) : ∃ k o, j < k ∧ k ≤ N ∧ ops[k]? = some o ∧ ∃ e, e ∈ o.after ∧ Region.binds .any e = true ∧ e.on = j := by
  unfold lastB at h
  simp only [List.all_eq_true, List.mem_range, List.any_eq_true] at h
  obtain ⟨k, h1, h2⟩ := h j hj
  rw [Bool.and_eq_true] at h2
  obtain ⟨h2, h3⟩ := h2
  have h2 : j < k := by simpa using h2
  cases ho : ops[k]? with
  | none => rw [ho] at h3; cases h3
  | some o =>
    rw [ho] at h3
    simp only [List.any_eq_true] at h3
    obtain ⟨e, h4, h5⟩ := h3
    simp at h5
    exact ⟨k, o, h2, by omega, ho, e, by simpa using h4, h5.1, h5.2⟩
theorem all_below {N : Nat} (hl : lastB ops N = true) {listed : Array Bool} {o : Oper} (ho : ops[N]? = some o) (hr : ∀ e, e ∈ o.after → Region.binds .any e = true → listed.getD e.on false = true)
    (hc : ∀ i o, ops[i]? = some o → listed.getD i false = true → ∀ e, e ∈ o.after → Region.binds .any e = true → listed.getD e.on false = true) : ∀ d j, j < N → N ≤ j + d → listed.getD j false = true := by
  intro d
  induction d with
  | zero => intro j h1 h2; omega
  | succ d ih =>
    intro j h1 h2
    obtain ⟨k, ok, h3, h4, h5, e, h6, h7, h8⟩ := lastB_spec hl h1
    rw [← h8]
    by_cases hk : k = N
    · subst hk
      rw [ho] at h5; cases h5
      exact hr e h6 h7
    · exact hc k ok h5 (ih k (by omega) (by omega)) e h6 h7
theorem getD_put (a : Act) (d : Option Tmp) (v : Value) (t : Tmp) (h : d ≠ some t) : (a.put d v).tmps.getD t undef = a.tmps.getD t undef := by
  cases d with
  | none => rfl
  | some d =>
    have hd : d ≠ t := fun e => h (by rw [e])
    simp [Act.put, Array.getElem?_setIfInBounds_ne hd]
theorem listed_set {l : Array Bool} {i j : Nat} (h : (l.setIfInBounds i true).getD j false = true) : j = i ∨ l.getD j false = true := by
  by_cases e : i = j
  · exact .inl e.symm
  right
  simpa [Array.getElem?_setIfInBounds_ne e] using h
theorem St.step (hd : dstB ops = true) (hst : ∀ i v w w', φ i v w → Ex w w' → φ i v w') {listed : Array Bool} {a : Act} {w : World} (h : St ops a0 w0 φ listed a w) {i : Nat} {o : Oper} (hi : ops[i]? = some o) (hn : listed.getD i false = false) (hlt : i < listed.size) (hrd : ∀ e, e ∈ o.after → Region.binds .any e = true → listed.getD e.on false = true)
    (hfit : ∀ t, o.dst = some t → t < a0.tmps.size) {v : Value} {w' : World} (hw : Ex w w') (hv : φ i v w') : St ops a0 w0 φ (listed.setIfInBounds i true) (a.put o.dst v) w' := by
  refine ⟨h.ext.trans hw, ?_, ?_, ?_, ?_, ?_⟩
  · cases o.dst <;> exact h.defers
  · cases o.dst with
    | none => exact h.size
    | some d => simpa [Act.put] using h.size
  · intro j oj hj hl
    rcases listed_set hl with rfl | hl'
    · rw [hi] at hj; cases hj
      refine ⟨v, hv, fun t ht => ?_⟩
      have := hfit t ht
      rw [ht]
      simp [Act.put, h.size, this]
    have hne : i ≠ j := by rintro rfl; rw [hn] at hl'; cases hl'
    obtain ⟨u, hu, hu2⟩ := h.done j oj hj hl'
    refine ⟨u, hst j u w w' hu hw, fun t ht => ?_⟩
    rw [getD_put _ _ _ _ (dstB_ne hd (Ne.symm hne) hj hi ht)]
    exact hu2 t ht
  · intro t ht
    have h1 : o.dst ≠ some t := by
      refine ht i o hi ?_
      simp [hlt]
    rw [getD_put _ _ _ _ h1]
    exact h.rest t fun j oj hj hl => ht j oj hj (by
      by_cases e : i = j
      · subst e; rw [hn] at hl; cases hl
      · simpa [Array.getElem?_setIfInBounds_ne e] using hl)
  have up : ∀ j, listed.getD j false = true → (listed.setIfInBounds i true).getD j false = true := by
    intro j hj
    by_cases e : i = j
    · subst e; rw [hn] at hj; cases hj
    · simpa [Array.getElem?_setIfInBounds_ne e] using hj
  intro j oj hj hl e he hb
  rcases listed_set hl with rfl | hl'
  · rw [hi] at hj; cases hj
    exact up _ (hrd e he hb)
  exact up _ (h.closed j oj hj hl' e he hb)
theorem gset {l : Array Bool} {i j : Nat} (h : i ≠ j) (d : Bool) : (l.setIfInBounds i true).getD j d = l.getD j d := by
  rw [Array.getD_eq_getD_getElem?, Array.getD_eq_getD_getElem?, Array.getElem?_setIfInBounds_ne h]
theorem least_ready (hb : backB ops = true) {listed : Array Bool} (hs : listed.size = ops.size) : ∀ i, i < ops.size → listed.getD i false = false → ∃ j, j ∈ Region.ready .any ops listed := by
  intro i
  induction i using Nat.strongRecOn with
  | _ i ih =>
    intro hi hl
    by_cases h : ∃ j, j < i ∧ listed.getD j false = false
    · obtain ⟨j, hj, hjl⟩ := h
      exact ih j hj (by omega) hjl
    · refine ⟨i, mem_ready.2 ⟨?_, ops[i], by simp [hi], fun e he hbd => ?_⟩⟩
      · have : i < listed.size := by omega
        simpa [this] using hl
      · have h1 := backB_spec hb (i := i) (o := ops[i]) (by simp [hi]) he hbd
        cases h2 : listed.getD e.on false with
        | true => rfl
        | false => exact absurd ⟨e.on, h1, h2⟩ h
def unl (listed : Array Bool) : Nat := listed.toList.countP (fun b => !b)
theorem unl_set {listed : Array Bool} {i : Nat} (hi : i < listed.size) (hn : listed.getD i false = false) : unl (listed.setIfInBounds i true) + 1 = unl listed := by
  unfold unl
  have hx : listed.toList[i]'(by simpa using hi) = false := by simpa [hi] using hn
  have hpos : 0 < listed.toList.countP (fun b => !b) := by
    rw [List.countP_pos_iff]
    exact ⟨false, by rw [← hx]; exact List.getElem_mem _, rfl⟩
  rw [Array.toList_setIfInBounds, List.countP_set (by simpa using hi), hx]
  simp only [Bool.not_false, Bool.not_true, if_true, Bool.false_eq_true, if_false]
  omega
theorem unl_pos {listed : Array Bool} {i : Nat} (hi : i < listed.size) (hn : listed.getD i false = false) : 0 < unl listed := by
  have := unl_set hi hn; omega
theorem any_end {listed : Array Bool} (hall : ∀ i, i < ops.size → listed.getD i true = true) {a : Act} {w : World} (h : Q .normal a w) : ∀ fuel, wpAny P .any ops Q fuel listed a w := by
  have hr : Region.ready .any ops listed = [] := by
    cases hq : Region.ready .any ops listed with
    | nil => rfl
    | cons j l =>
      have hj : j ∈ Region.ready .any ops listed := by rw [hq]; exact List.mem_cons_self
      obtain ⟨h1, o, ho, _⟩ := mem_ready.1 hj
      have h2 := hall j (Array.getElem?_eq_some_iff.1 ho).1
      rw [h1] at h2; cases h2
  intro fuel
  cases fuel with
  | zero => exact ⟨hr, h⟩
  | succ f => exact ⟨fun _ => h, fun i hi => by rw [hr] at hi; cases hi⟩
theorem wpOp_mono {i : Nat} {K K' : Act → World → Prop} (h : ∀ a w, K a w → K' a w) {a : Act} {w : World} (hh : wpOp P ops Q i K a w) : wpOp P ops Q i K' a w := by
  unfold wpOp at *
  split
  · rename_i h0; simp only [h0] at hh; exact h _ _ hh
  rename_i o ho
  simp only [ho] at hh
  split
  · rename_i hw; simp only [hw, if_true] at hh
    rcases hh with hh | hh
    · exact .inl (Oper.wp_mono h hh)
    exact .inr hh
  rename_i hw; simp only [hw] at hh; exact h _ _ hh
theorem flow_go (N : Nat) (hN : ops.size = N + 1) (hb : backB ops = true) (hl : lastB ops N = true) (hd : dstB ops = true) (hst : ∀ i v w w', φ i v w → Ex w w' → φ i v w')
    (hfit : ∀ (i : Nat) (o : Oper), ops[i]? = some o → ∀ t, o.dst = some t → t < a0.tmps.size)
    (H : ∀ i o, i < N → ops[i]? = some o → Ask P ops Q a0 w0 φ i o)
    (L : ∀ a w, Ex w0 w → a.defers = a0.defers → a.tmps.size = a0.tmps.size → (∀ i o, i < N → ops[i]? = some o → ∃ v, φ i v w ∧ ∀ t, o.dst = some t → a.tmps.getD t undef = v) →
      (∀ t, (∀ i o, i < N → ops[i]? = some o → o.dst ≠ some t) → a.tmps.getD t undef = a0.tmps.getD t undef) → wpOp P ops Q N (Q .normal) a w) :
    ∀ fuel listed a w, listed.size = N + 1 → listed.getD N false = false → unl listed ≤ fuel → St ops a0 w0 φ listed a w → wpAny P .any ops Q fuel listed a w := by
  intro fuel
  induction fuel with
  | zero =>
    intro listed a w hs hn hu _
    have := unl_pos (i := N) (by omega) hn
    omega
  | succ f ih =>
    intro listed a w hs hn hu h
    refine ⟨fun h0 => ?_, fun i hi => ?_⟩
    · obtain ⟨j, hj⟩ := least_ready hb (by omega) N (by omega) hn
      rw [h0] at hj; cases hj
    · obtain ⟨hun, o, ho, hall⟩ := mem_ready.1 hi
      have hlt : i < ops.size := (Array.getElem?_eq_some_iff.1 ho).1
      have hil : i < listed.size := by omega
      have hun' : listed.getD i false = false := by simpa [hil] using hun
      by_cases hiN : i = N
      · subst hiN
        have hdone : ∀ j, j < i → listed.getD j false = true := fun j hj => all_below hl ho hall h.closed i j hj (by omega)
        refine wpOp_mono (fun a' w' hq => any_end (fun j hj => ?_) hq f) (L a w h.ext h.defers h.size (fun j oj hj hoj => h.done j oj hoj (hdone j hj)) (fun t ht => h.rest t fun j oj hoj hjl => ?_))
        · by_cases e : i = j
          · subst e; simp [hil]
          · have := hdone j (by omega)
            have hjs : j < listed.size := by omega
            rw [gset e]
            simpa [hjs] using this
        · by_cases e : j = i
          · subst e; rw [hun'] at hjl; cases hjl
          · exact ht j oj (by have := (Array.getElem?_eq_some_iff.1 hoj).1; omega) hoj
      · have hq := H i o (by omega) ho a w h.ext h.size (fun e he hbd oj hoj => h.done e.on oj hoj (hall e he hbd)) (fun t ht => h.rest t fun j oj hoj _ => ht j oj hoj)
        have key : ∀ v w', Ex w w' → φ i v w' → wpAny P .any ops Q f (listed.setIfInBounds i true) (a.put o.dst v) w' := fun v w' hw hv =>
          ih _ _ _ (by simpa using hs) (by rw [gset hiN]; exact hn) (by have := unl_set hil hun'; omega)
            (h.step hd hst ho hun' hil hall (hfit i o ho) hw hv)
        unfold wpOp
        simp only [ho]
        split
        · rename_i hw
          rw [if_pos hw] at hq
          exact .inl (hq _ key)
        · rename_i hw
          rw [if_neg hw] at hq
          exact key undef w (Ex.refl w) hq
theorem wp_region_flow (N : Nat) {id : Nat} {l : List Oper} (φ : Nat → Value → World → Prop) (hm : P.follows .mixedOrders = true) (hN : l.toArray.size = N + 1) (hb : backB l.toArray = true) (hl : lastB l.toArray N = true) (hd : dstB l.toArray = true)
    (hst : ∀ i v w w', φ i v w → Ex w w' → φ i v w')
    (hfit : ∀ (i : Nat) (o : Oper), l.toArray[i]? = some o → ∀ t, o.dst = some t → t < a0.tmps.size)
    (H : ∀ i o, i < N → l.toArray[i]? = some o → Ask P l.toArray Q a0 w0.drew φ i o)
    (L : ∀ a w, Ex w0.drew w → a.defers = a0.defers → a.tmps.size = a0.tmps.size → (∀ i o, i < N → l.toArray[i]? = some o → ∃ v, φ i v w ∧ ∀ t, o.dst = some t → a.tmps.getD t undef = v) →
      (∀ t, (∀ i o, i < N → l.toArray[i]? = some o → o.dst ≠ some t) → a.tmps.getD t undef = a0.tmps.getD t undef) → wpOp P l.toArray Q N (Q .normal) a w) :
    (Code.region id l.toArray true).wp P Q a0 w0 := by
  refine wp_region_any hm ?_
  refine flow_go (w0 := w0.drew) N hN hb hl hd hst hfit H L _ _ _ _ (by simp [hN]) ?_ ?_ ⟨Ex.refl _, rfl, rfl, ?_, fun _ _ => rfl, ?_⟩
  · simp [hN]
  · unfold unl
    refine Nat.le_trans List.countP_le_length ?_
    simp
  · intro i o hi hli
    have : i < l.toArray.size := (Array.getElem?_eq_some_iff.1 hi).1
    simp at this hli
    rw [Array.getElem?_replicate, if_pos (by simpa using this)] at hli
    cases hli
  intro i o hi hli
  have : i < l.toArray.size := (Array.getElem?_eq_some_iff.1 hi).1
  simp at this hli
  rw [Array.getElem?_replicate, if_pos (by simpa using this)] at hli
  cases hli
def fitB (ops : Array Oper) (n : Nat) : Bool := ops.toList.all fun o => match o.dst with
  | none => true
  | some t => decide (t < n)
theorem fitB_spec {n : Nat} (h : fitB ops n = true) (i : Nat) (o : Oper) (hi : ops[i]? = some o) (t : Tmp) (ht : o.dst = some t) : t < n := by
  unfold fitB at h
  rw [List.all_eq_true] at h
  have h1 := h o (by rw [List.mem_iff_getElem?]; exact ⟨i, by simpa using hi⟩)
  rw [ht] at h1
  simpa using h1
def outB (ops : Array Oper) (t : Tmp) : Bool := ops.toList.all fun o => o.dst != some t
theorem outB_spec {t : Tmp} (h : outB ops t = true) (i : Nat) (o : Oper) (hi : ops[i]? = some o) : o.dst ≠ some t := by
  unfold outB at h
  rw [List.all_eq_true] at h
  have h1 := h o (by rw [List.mem_iff_getElem?]; exact ⟨i, by simpa using hi⟩)
  simpa using h1
theorem ob {t : Tmp} (h : outB ops t = true := by kernel_rfl) : ∀ (i : Nat) (o : Oper), ops[i]? = some o → o.dst ≠ some t := outB_spec h
theorem gd9 {α : Type} {xs : Array α} {i : Nat} {d : α} : xs.getD i d = xs[i]?.getD d := Array.getD_eq_getD_getElem?
theorem arr_range (A : Array Value) (n : Nat) (h : A.size = n) : A = ((List.range n).map fun t => A[t]?.getD undef).toArray := by
  apply Array.ext (by simp [h])
  intro i h1 h2
  simp [h1]
theorem wanted_of {o oj : Oper} {a : Act} {j : Nat} {b : Bool} {t : Tmp} (hgd : o.guard = some (j, b)) (hj : ops[j]? = some oj) (ht : oj.dst = some t) (hv : a.tmps.getD t undef = .bool b) : Region.wanted o (yielded ops a.tmps) = true := by
  have h1 : a.tmps[t]? = some (.bool b) := by
    rw [Array.getD_eq_getD_getElem?] at hv
    cases h : a.tmps[t]? with
    | none => rw [h] at hv; cases hv
    | some x => rw [h] at hv; simp at hv; rw [hv]
  unfold Region.wanted yielded
  simp [hgd, hj, ht, h1]
theorem wp_mv {o : Oper} {a : Act} {w : World} {K : Act → World → Prop} (x : Operand) (ho : o.op = .move x) (h : K (a.put o.dst (a.eval x)) w) : o.wp P a w K Q := by
  unfold Oper.wp execOp
  simp only [ho]
  exact h
theorem wp_mw {o : Oper} {a : Act} {w : World} {K : Act → World → Prop} {v : Value} (x : Operand) (ho : o.op = .move x) (hv : a.eval x = v) (h : K (a.put o.dst v) w) : o.wp P a w K Q := wp_mv x ho (by rw [hv]; exact h)
end
end Go.Proofs.Ytopamplmpfndlaa
namespace Go.Proofs.Ytopamplmpfndlaa
open Go.RowKit
section
variable {P : Program} {ops : Array Oper} {Q : Exit → Act → World → Prop} {a0 : Act} {val : Nat → Value} {I : Array Bool → World → Prop}
structure Sv (ops : Array Oper) (a0 : Act) (val : Nat → Value) (I : Array Bool → World → Prop) (listed : Array Bool) (a : Act) (w : World) : Prop where
  inv : I listed w
  defers : a.defers = a0.defers
  size : a.tmps.size = a0.tmps.size
  done : ∀ (i : Nat) (o : Oper), ops[i]? = some o → listed.getD i false = true → ∀ t, o.dst = some t → a.tmps.getD t undef = val i
  rest : ∀ t, (∀ (i : Nat) (o : Oper), ops[i]? = some o → listed.getD i false = true → o.dst ≠ some t) → a.tmps.getD t undef = a0.tmps.getD t undef
theorem Sv.step (hd : dstB ops = true) {listed : Array Bool} {a : Act} {w : World} (h : Sv ops a0 val I listed a w) {i : Nat} {o : Oper} (hi : ops[i]? = some o) (hn : listed.getD i false = false) (hlt : i < listed.size)
    (hfit : ∀ t, o.dst = some t → t < a0.tmps.size) {w' : World} (hv : I (listed.setIfInBounds i true) w') : Sv ops a0 val I (listed.setIfInBounds i true) (a.put o.dst (val i)) w' := by
  refine ⟨hv, ?_, ?_, ?_, ?_⟩
  · cases o.dst <;> exact h.defers
  · cases o.dst with
    | none => exact h.size
    | some d => simpa [Act.put] using h.size
  · intro j oj hj hl
    rcases listed_set hl with rfl | hl'
    · rw [hi] at hj; cases hj
      intro t ht
      have := hfit t ht
      rw [ht]
      simp [Act.put, h.size, this]
    have hne : i ≠ j := by rintro rfl; rw [hn] at hl'; cases hl'
    intro t ht
    rw [getD_put _ _ _ _ (dstB_ne hd (Ne.symm hne) hj hi ht)]
    exact h.done j oj hj hl' t ht
  intro t ht
  have h1 : o.dst ≠ some t := by
    refine ht i o hi ?_
    simp [hlt]
  rw [getD_put _ _ _ _ h1]
  exact h.rest t fun j oj hj hl => ht j oj hj (by
    by_cases e : i = j
    · subst e; rw [hn] at hl; cases hl
    · simpa [Array.getElem?_setIfInBounds_ne e] using hl)
def putAll (val : Nat → Value) : Nat → List Oper → Act → Act
  | _, [], a => a
  | i, o :: r, a => putAll val (i + 1) r (a.put o.dst (val i))
theorem put_size (a : Act) (d : Option Tmp) (v : Value) : (a.put d v).tmps.size = a.tmps.size := by cases d <;> simp [Act.put]
theorem put_defers (a : Act) (d : Option Tmp) (v : Value) : (a.put d v).defers = a.defers := by cases d <;> rfl
theorem putAll_defers (val : Nat → Value) : ∀ (l : List Oper) (i : Nat) (a : Act), (putAll val i l a).defers = a.defers
  | [], _, _ => rfl
  | o :: r, i, a => (putAll_defers val r (i + 1) _).trans (put_defers a o.dst _)
theorem putAll_size (val : Nat → Value) : ∀ (l : List Oper) (i : Nat) (a : Act), (putAll val i l a).tmps.size = a.tmps.size
  | [], _, _ => rfl
  | o :: r, i, a => (putAll_size val r (i + 1) _).trans (put_size a o.dst _)
theorem putAll_none (val : Nat → Value) (t : Tmp) : ∀ (l : List Oper) (i : Nat) (a : Act), (∀ o, o ∈ l → o.dst ≠ some t) → (putAll val i l a).tmps.getD t undef = a.tmps.getD t undef
  | [], _, _, _ => rfl
  | o :: r, i, a, h => (putAll_none val t r (i + 1) _ fun o' h' => h o' (List.mem_cons_of_mem _ h')).trans (getD_put a _ _ _ (h o List.mem_cons_self))
theorem putAll_one (val : Nat → Value) (t : Tmp) : ∀ (l : List Oper) (i j : Nat) (a : Act) (o : Oper), l[j]? = some o → o.dst = some t → (∀ k o', l[k]? = some o' → k ≠ j → o'.dst ≠ some t) → t < a.tmps.size → (putAll val i l a).tmps.getD t undef = val (i + j)
  | [], _, _, _, _, h, _, _, _ => by simp at h
  | x :: r, i, 0, a, o, h, ht, hu, hs => by
    obtain rfl : x = o := by simpa using h
    refine (putAll_none val t r (i + 1) _ fun o' h' => ?_).trans ?_
    · obtain ⟨k, hk, e⟩ := List.getElem_of_mem h'
      exact hu (k + 1) o' (by simp [List.getElem?_cons_succ, hk, e]) (by omega)
    · rw [ht]; simp [Act.put, hs]
  | x :: r, i, j + 1, a, o, h, ht, hu, hs => by
    refine (putAll_one val t r (i + 1) j _ o (by simpa using h) ht (fun k o' hk hne => hu (k + 1) o' (by simpa using hk) (by omega)) (by rw [put_size]; exact hs)).trans ?_
    rw [show i + 1 + j = i + (j + 1) by omega]
theorem act_ext {a b : Act} (h1 : a.tmps.size = b.tmps.size) (h2 : ∀ t, a.tmps.getD t undef = b.tmps.getD t undef) (h3 : a.defers = b.defers) : a = b := by
  obtain ⟨x, y⟩ := a
  obtain ⟨x', y'⟩ := b
  obtain rfl : y = y' := h3
  have : x = x' := by
    refine Array.ext h1 fun i hi hj => ?_
    have := h2 i
    simpa [Array.getD_eq_getD_getElem?, hi, hj] using this
  rw [this]
theorem act_all (l : List Oper) (hd : dstB l.toArray = true) {a : Act} (hdef : a.defers = a0.defers) (hsz : a.tmps.size = a0.tmps.size)
    (hfit : ∀ (i : Nat) (o : Oper), l.toArray[i]? = some o → ∀ t, o.dst = some t → t < a0.tmps.size)
    (h1 : ∀ (i : Nat) (o : Oper), l.toArray[i]? = some o → ∀ t, o.dst = some t → a.tmps.getD t undef = val i)
    (h2 : ∀ t, (∀ (i : Nat) (o : Oper), l.toArray[i]? = some o → o.dst ≠ some t) → a.tmps.getD t undef = a0.tmps.getD t undef) : a = putAll val 0 l a0 := by
  refine act_ext (hsz.trans (putAll_size ..).symm) (fun t => ?_) (hdef.trans (putAll_defers ..).symm)
  by_cases h : ∃ (i : Nat) (o : Oper), l.toArray[i]? = some o ∧ o.dst = some t
  · obtain ⟨i, o, ho, ht⟩ := h
    rw [h1 i o ho t ht, putAll_one val t l 0 i a0 o (by simpa using ho) ht (fun k o' hk hne => dstB_ne hd (Ne.symm hne) (by simpa using ho) (by simpa using hk) ht) (hfit i o ho t ht), Nat.zero_add]
  have hn : ∀ (i : Nat) (o : Oper), l.toArray[i]? = some o → o.dst ≠ some t := fun i o ho e => h ⟨i, o, ho, e⟩
  rw [h2 t hn, putAll_none]
  intro o ho
  obtain ⟨k, hk, e⟩ := List.getElem_of_mem ho
  exact hn k o (by simp [hk, e])
end
end Go.Proofs.Ytopamplmpfndlaa
namespace Go.Proofs.Ytopamplmpfndlaa
open Go.RowKit
def upd (f : Nat → Value) (i : Nat) (v : Value) : Nat → Value := fun j => if j = i then v else f j
theorem upd_same (f : Nat → Value) (i : Nat) (v : Value) : upd f i v i = v := if_pos rfl
theorem upd_ne (f : Nat → Value) {i j : Nat} (v : Value) (h : j ≠ i) : upd f i v j = f j := if_neg h
section
variable {P : Program} {ops : Array Oper} {Q : Exit → Act → World → Prop} {a0 : Act} {J : Array Bool → (Nat → Value) → World → Prop}
structure Sg (ops : Array Oper) (a0 : Act) (J : Array Bool → (Nat → Value) → World → Prop) (f : Nat → Value) (listed : Array Bool) (a : Act) (w : World) : Prop where
  inv : J listed f w
  defers : a.defers = a0.defers
  size : a.tmps.size = a0.tmps.size
  done : ∀ (i : Nat) (o : Oper), ops[i]? = some o → listed.getD i false = true → ∀ t, o.dst = some t → a.tmps.getD t undef = f i
  rest : ∀ t, (∀ (i : Nat) (o : Oper), ops[i]? = some o → listed.getD i false = true → o.dst ≠ some t) → a.tmps.getD t undef = a0.tmps.getD t undef
  closed : ∀ (i : Nat) (o : Oper), ops[i]? = some o → listed.getD i false = true → ∀ e, e ∈ o.after → Region.binds .any e = true → listed.getD e.on false = true
def AskG (P : Program) (ops : Array Oper) (Q : Exit → Act → World → Prop) (a0 : Act) (J : Array Bool → (Nat → Value) → World → Prop) (i : Nat) (o : Oper) : Prop :=
  ∀ listed f a w, J listed f w → a.tmps.size = a0.tmps.size → listed.size = ops.size → listed.getD i false = false →
    (∀ e, e ∈ o.after → Region.binds .any e = true → listed.getD e.on false = true ∧ ∀ oj, ops[e.on]? = some oj → ∀ t, oj.dst = some t → a.tmps.getD t undef = f e.on) →
    (∀ t, (∀ (j : Nat) oj, ops[j]? = some oj → oj.dst ≠ some t) → a.tmps.getD t undef = a0.tmps.getD t undef) →
    (∀ (t : Tmp) (j : Nat) (oj : Oper), ops[j]? = some oj → oj.dst = some t → (∃ e, e ∈ oj.after ∧ Region.binds .any e = true ∧ e.on = i) → a.tmps.getD t undef = a0.tmps.getD t undef) →
    if Region.wanted o (yielded ops a.tmps) = true then ∀ K : Act → World → Prop, (∀ v w', J (listed.setIfInBounds i true) (upd f i v) w' → K (a.put o.dst v) w') → o.wp P a w K Q else J (listed.setIfInBounds i true) (upd f i undef) w
theorem Sg.step (hd : dstB ops = true) {f : Nat → Value} {listed : Array Bool} {a : Act} {w : World} (h : Sg ops a0 J f listed a w) {i : Nat} {o : Oper} (hi : ops[i]? = some o) (hn : listed.getD i false = false) (hlt : i < listed.size) (hcl : ∀ e, e ∈ o.after → Region.binds .any e = true → listed.getD e.on false = true)
    (hfit : ∀ t, o.dst = some t → t < a0.tmps.size) {v : Value} {w' : World} (hv : J (listed.setIfInBounds i true) (upd f i v) w') : Sg ops a0 J (upd f i v) (listed.setIfInBounds i true) (a.put o.dst v) w' := by
  refine ⟨hv, ?_, ?_, ?_, ?_, ?_⟩
  · cases o.dst <;> exact h.defers
  · cases o.dst with
    | none => exact h.size
    | some d => simpa [Act.put] using h.size
  · intro j oj hj hl
    rcases listed_set hl with rfl | hl'
    · rw [hi] at hj; cases hj
      intro t ht
      have := hfit t ht
      rw [ht, upd_same]
      simp [Act.put, h.size, this]
    have hne : i ≠ j := by rintro rfl; rw [hn] at hl'; cases hl'
    intro t ht
    rw [getD_put _ _ _ _ (dstB_ne hd (Ne.symm hne) hj hi ht), upd_ne _ _ (Ne.symm hne)]
    exact h.done j oj hj hl' t ht
  · intro t ht
    have h1 : o.dst ≠ some t := by
      refine ht i o hi ?_
      simp [hlt]
    rw [getD_put _ _ _ _ h1]
    exact h.rest t fun j oj hj hl => ht j oj hj (by
      by_cases e : i = j
      · subst e; rw [hn] at hl; cases hl
      · simpa [Array.getElem?_setIfInBounds_ne e] using hl)
  intro j oj hj hl e he hb
  have mono : ∀ k, listed.getD k false = true → (listed.setIfInBounds i true).getD k false = true := fun k hk => by
    by_cases h1 : i = k
    · subst h1; rw [hn] at hk; cases hk
    · rw [gset h1 false]; exact hk
  rcases listed_set hl with rfl | hl'
  · rw [hi] at hj; cases hj
    exact mono _ (hcl e he hb)
  exact mono _ (h.closed j oj hj hl' e he hb)
theorem flow_gen (hb : backB ops = true) (hd : dstB ops = true)
    (hfit : ∀ (i : Nat) (o : Oper), ops[i]? = some o → ∀ t, o.dst = some t → t < a0.tmps.size)
    (H : ∀ (i : Nat) (o : Oper), ops[i]? = some o → AskG P ops Q a0 J i o)
    (L : ∀ listed f a w, (∀ i, i < ops.size → listed.getD i false = true) → J listed f w → a.defers = a0.defers → a.tmps.size = a0.tmps.size → (∀ (i : Nat) (o : Oper), ops[i]? = some o → ∀ t, o.dst = some t → a.tmps.getD t undef = f i) →
      (∀ t, (∀ (i : Nat) (o : Oper), ops[i]? = some o → o.dst ≠ some t) → a.tmps.getD t undef = a0.tmps.getD t undef) → Q .normal a w) :
    ∀ fuel f listed a w, listed.size = ops.size → unl listed ≤ fuel → Sg ops a0 J f listed a w → wpAny P .any ops Q fuel listed a w := by
  intro fuel
  induction fuel with
  | zero =>
    intro f listed a w hs hu h
    have hall : ∀ i, i < ops.size → listed.getD i false = true := by
      intro i hi
      cases h2 : listed.getD i false with
      | true => rfl
      | false => have := unl_pos (i := i) (by omega) h2; omega
    refine any_end (fun i hi => ?_) (L listed f a w hall h.inv h.defers h.size (fun i o ho => h.done i o ho (hall i (Array.getElem?_eq_some_iff.1 ho).1)) (fun t ht => h.rest t fun i o ho _ => ht i o ho)) 0
    have h3 := hall i hi
    have : i < listed.size := by omega
    simpa [this] using h3
  | succ fl ih =>
    intro f listed a w hs hu h
    by_cases hq : ∀ i, i < ops.size → listed.getD i false = true
    · refine any_end (fun i hi => ?_) (L listed f a w hq h.inv h.defers h.size (fun i o ho => h.done i o ho (hq i (Array.getElem?_eq_some_iff.1 ho).1)) (fun t ht => h.rest t fun i o ho _ => ht i o ho)) (fl + 1)
      have h3 := hq i hi
      have : i < listed.size := by omega
      simpa [this] using h3
    · have ⟨n, hn, hnl⟩ : ∃ n, n < ops.size ∧ listed.getD n false = false := by
        apply Classical.byContradiction
        intro hc
        apply hq
        intro i hi
        cases h2 : listed.getD i false with
        | true => rfl
        | false => exact absurd ⟨i, hi, h2⟩ hc
      refine ⟨fun h0 => ?_, fun i hi => ?_⟩
      · obtain ⟨j, hj⟩ := least_ready hb hs n hn hnl
        rw [h0] at hj; cases hj
      · obtain ⟨hun, o, ho, hall⟩ := mem_ready.1 hi
        have hlt : i < ops.size := (Array.getElem?_eq_some_iff.1 ho).1
        have hil : i < listed.size := by omega
        have hun' : listed.getD i false = false := by simpa [hil] using hun
        have hq := H i o ho listed f a w h.inv h.size hs hun' (fun e he hbd => ⟨hall e he hbd, fun oj hoj => h.done e.on oj hoj (hall e he hbd)⟩) (fun t ht => h.rest t fun j oj hoj _ => ht j oj hoj) (fun t j oj hoj hd' ⟨e, he, hbd, hon⟩ => h.rest t fun k ok hok hlk => by
          by_cases h1 : k = j
          · rw [h1] at hlk
            have := h.closed j oj hoj hlk e he hbd
            rw [hon, hun'] at this; cases this
          · exact dstB_ne hd (Ne.symm h1) hoj hok hd')
        have key : ∀ v w', J (listed.setIfInBounds i true) (upd f i v) w' → wpAny P .any ops Q fl (listed.setIfInBounds i true) (a.put o.dst v) w' := fun v w' hv =>
          ih _ _ _ _ (by simpa using hs) (by have := unl_set hil hun'; omega) (h.step hd ho hun' hil hall (hfit i o ho) hv)
        unfold wpOp
        simp only [ho]
        split
        · rename_i hw
          rw [if_pos hw] at hq
          exact .inl (hq _ key)
        · rename_i hw
          rw [if_neg hw] at hq
          exact key _ w hq
theorem wp_region_gen {w0 : World} {id : Nat} {l : List Oper} (J : Array Bool → (Nat → Value) → World → Prop) (hm : P.follows .mixedOrders = true) (hb : backB l.toArray = true) (hd : dstB l.toArray = true)
    (hfit : ∀ (i : Nat) (o : Oper), l.toArray[i]? = some o → ∀ t, o.dst = some t → t < a0.tmps.size)
    (h0 : ∀ listed f, (∀ i, listed.getD i false = false) → J listed f w0.drew)
    (H : ∀ (i : Nat) (o : Oper), l.toArray[i]? = some o → AskG P l.toArray Q a0 J i o)
    (L : ∀ listed f w, (∀ i, i < l.toArray.size → listed.getD i false = true) → J listed f w → Q .normal (putAll f 0 l a0) w) :
    (Code.region id l.toArray true).wp P Q a0 w0 := by
  refine wp_region_any hm ?_
  have hz : ∀ i, (Array.replicate l.toArray.size false).getD i false = false := by
    intro i
    rw [Array.getD_eq_getD_getElem?, Array.getElem?_replicate]
    split <;> rfl
  refine flow_gen hb hd hfit H (fun listed f a w hall hI hdef hsz h1 h2 => by
    rw [act_all l hd hdef hsz hfit h1 h2]
    exact L listed f w hall hI) _ (fun _ => undef) _ _ _ (by simp) ?_ ⟨h0 _ _ hz, rfl, rfl, ?_, fun _ _ => rfl, ?_⟩
  · unfold unl
    refine Nat.le_trans List.countP_le_length ?_
    simp
  · intro i o hi hli
    rw [hz i] at hli; cases hli
  intro i o hi hli
  rw [hz i] at hli; cases hli
end
structure JP (base : World) (φ : Nat → Value → World → Prop) (S : Array Bool → (Nat → Value) → World → Prop) (listed : Array Bool) (f : Nat → Value) (w : World) : Prop where
  ext : Ex base w
  vals : ∀ i, listed.getD i false = true → φ i (f i) w
  priv : S listed f w
theorem JP.next {base : World} {φ : Nat → Value → World → Prop} {S : Array Bool → (Nat → Value) → World → Prop} {listed : Array Bool} {f : Nat → Value} {w w' : World} (h : JP base φ S listed f w) {i : Nat} {v : Value}
    (hst : ∀ j u, φ j u w → φ j u w') (hx : Ex base w') (hv : φ i v w') (hS : S (listed.setIfInBounds i true) (upd f i v) w') : JP base φ S (listed.setIfInBounds i true) (upd f i v) w' := by
  refine ⟨hx, fun j hj => ?_, hS⟩
  by_cases e : j = i
  · subst e; rw [upd_same]; exact hv
  rw [upd_ne _ _ e]
  rcases listed_set hj with rfl | hj
  · exact absurd rfl e
  exact hst _ _ (h.vals j hj)
end Go.Proofs.Ytopamplmpfndlaa
namespace Go.Proofs.Ytopamplmpfndlaa
open Go.RowKit
theorem Hi {p : Prop} (h : p) : Hid p := Lib.hid h
def Bk (w : World) (B : Nat) (t : TypeId) (cs : Array Value) : Prop := w.heap[B]? = some (.cells cs t (0, 0))
theorem Bk.put {w : World} {B : Nat} {t : TypeId} {cs : Array Value} (h : Bk w B t cs) (i : Nat) (v : Value) : Bk (w.setCell ⟨B, i, none⟩ v) B t (cs.setIfInBounds i v) := by
 unfold Bk at *; simp [World.setCell, Array.getElem?_modify, h]
theorem Bk.cell {w : World} {B : Nat} {t : TypeId} {cs : Array Value} (h : Bk w B t cs) (i : Nat) : w.cell? ⟨B, i, none⟩ = cs[i]? := by
 unfold Bk at h; simp [World.cell?, h]
theorem Bk.fr {w : World} {B : Nat} {t : TypeId} {cs : Array Value} (h : Bk w B t cs) (i : Nat) : w.frozen? ⟨B, i, none⟩ = false := by
 unfold Bk at h; simp [World.frozen?, h]
theorem Bk.there {w : World} {g : Nat} {t : TypeId} {cs : Array Value} (h : Bk w g t cs) (o n : Nat) (hn : o + n ≤ cs.size) : w.there g o n := by
 intro j hj
 refine ⟨?_, h.fr _⟩
 rw [h.cell]; simp; omega
theorem Bk.new {w : World} {g : Nat} (hg : g = w.heap.size) (t : TypeId) (cs : Array Value) : Bk (w.alloc (.cells cs t)) g t cs := by subst hg; exact heap_alloc_new w _
theorem Bk.lt {w : World} {g : Nat} {t : TypeId} {cs : Array Value} (h : Bk w g t cs) : g < w.heap.size := by
 rcases Nat.lt_or_ge g w.heap.size with hlt | hge
 ·exact hlt
 unfold Bk at h; rw [Array.getElem?_eq_none hge] at h; cases h
theorem Bk.more {w : World} {g : Nat} {t : TypeId} {cs : Array Value} (h : Bk w g t cs) (o : Obj) : Bk (w.alloc o) g t cs := (Below.heap_alloc w o g h.lt).trans h
theorem Bk.under {w w' : World} {B g : Nat} {t : TypeId} {cs : Array Value} (h : Bk w g t cs) (hb : Below B w w') (hg : g < B) : Bk w' g t cs := (hb.block g hg).trans h
theorem Bk.ext {w w' : World} {g : Nat} {t : TypeId} {cs : Array Value} (h : Bk w g t cs) (k : Ex w w') : Bk w' g t cs := h.under k h.lt
theorem Bk.far {w : World} {g b i : Nat} {v : Value} {t : TypeId} {cs : Array Value} (h : Bk w g t cs) (hb : g ≠ b) : Bk (w.setCell ⟨b, i, none⟩ v) g t cs := (Below.heap_setCell _ _ _ _ hb).trans h
theorem Bk.range {w : World} {g : Nat} {t : TypeId} {ds : List Value} (h : Bk w g t ds.toArray) : w.rangeAt g 0 ds := by
 intro j v hv
 rw [h.cell]
 simpa using hv
theorem Bk.part {w : World} {g : Nat} {t : TypeId} {C : List Value} (h : Bk w g t C.toArray) (o : Nat) (ds : List Value) (hd : (C.drop o).take ds.length = ds) : w.rangeAt g o ds := by
 intro j v hv
 have hj : j < ds.length := (List.getElem?_eq_some_iff.1 hv).1
 rw [h.cell, List.getElem?_toArray]
 rw [← hd, List.getElem?_take, if_pos hj, List.getElem?_drop] at hv
 exact hv
theorem seg_set : ∀ (cs : List Value) (off : Nat) (C : List Value), off + cs.length ≤ C.length → ∀ (w : World) (g : Nat) (t : TypeId), Bk w g t C.toArray → Bk (w.setCells g off cs) g t (C.take off ++ cs ++ C.drop (off + cs.length)).toArray
 | [], off, C, _, w, g, t, h => by
  show Bk w g t _
  simpa using h
 | v :: r, off, C, hl, w, g, t, h => by
  have h1 := h.put off v
  have e1 : C.toArray.setIfInBounds off v = (C.set off v).toArray := by simp
  rw [e1] at h1
  have h2 := seg_set r (off + 1) (C.set off v) (by simp at hl ⊢; omega) (w.setCell ⟨g, off, none⟩ v) g t h1
  have hlt : off < C.length := by simp at hl; omega
  have e2 : (C.set off v).take (off + 1) ++ r ++ (C.set off v).drop (off + 1 + r.length) = C.take off ++ (v :: r) ++ C.drop (off + (v :: r).length) := by
   have a1 : (C.set off v).take (off + 1) = C.take off ++ [v] := by
    rw [List.take_succ_eq_append_getElem (by simpa using hlt)]
    simp [List.take_set_of_le]
   have a2 : (C.set off v).drop (off + 1 + r.length) = C.drop (off + (v :: r).length) := by
    rw [List.drop_set_of_lt (by omega), List.length_cons]; congr 1; omega
   rw [a1, a2]; simp
  rw [e2] at h2
  exact h2
theorem sm_below_setCells {B b : Nat} {a : World} : ∀ (vs : List Value) (o : Nat) (w : World), B ≤ b → Below B a w → Below B a (w.setCells b o vs)
 | [], _, _, _, h => h
 | v :: r, o, w, hb, h => sm_below_setCells r (o + 1) (w.setCell ⟨b, o, none⟩ v) hb (h.setCell (p := ⟨b, o, none⟩) hb v)
structure Only (g : Nat) (w w' : World) : Prop where
 below : ∀ B, B ≤ g → ∀ a, Below B a w → Below B a w'
 other : ∀ h, h ≠ g → w'.heap[h]? = w.heap[h]?
 size : w'.heap.size = w.heap.size
theorem Only.setCells (g : Nat) : ∀ (vs : List Value) (o : Nat) (w : World), Only g w (w.setCells g o vs)
 | [], _, _ => ⟨fun _ _ _ h => h, fun _ _ => rfl, rfl⟩
 | v :: r, o, w => by
  have h := Only.setCells g r (o + 1) (w.setCell ⟨g, o, none⟩ v)
  refine ⟨fun B hB a k => sm_below_setCells (v :: r) o w hB k, fun i hi => (h.other i hi).trans ?_, h.size.trans (by simp [World.setCell])⟩
  simp [World.setCell, Array.getElem?_modify, Ne.symm hi]
theorem Only.setCell (g o : Nat) (v : Value) (w : World) : Only g w (w.setCell ⟨g, o, none⟩ v) := Only.setCells g [v] o w
theorem Only.bk {g h : Nat} {w w' : World} {t : TypeId} {cs : Array Value} (k : Only g w w') (hb : Bk w h t cs) (hne : h ≠ g) : Bk w' h t cs := (k.other h hne).trans hb
structure Md (g : Nat) (w w' : World) : Prop where
 below : ∀ B, B ≤ g → ∀ a, Below B a w → Below B a w'
 other : ∀ h, h ≠ g → h < w.heap.size → w'.heap[h]? = w.heap[h]?
 size : w.heap.size ≤ w'.heap.size
theorem Md.refl (g : Nat) (w : World) : Md g w w := ⟨fun _ _ _ h => h, fun _ _ _ => rfl, Nat.le_refl _⟩
theorem Md.trans {g : Nat} {a b c : World} (h : Md g a b) (k : Md g b c) : Md g a c :=
 ⟨fun B hB x hx => k.below B hB x (h.below B hB x hx), fun i hi hl => (k.other i hi (Nat.lt_of_lt_of_le hl h.size)).trans (h.other i hi hl), Nat.le_trans h.size k.size⟩
theorem Only.md {g : Nat} {w w' : World} (h : Only g w w') : Md g w w' := ⟨h.below, fun i hi _ => h.other i hi, by rw [h.size]; exact Nat.le_refl _⟩
theorem Ex.md {g : Nat} {w w' : World} (h : Ex w w') (hg : g ≤ w.heap.size) : Md g w w' :=
 ⟨fun B hB a ha => Below.trans ha (h.mono (Nat.le_trans hB hg)), fun i _ hl => h.block i hl, h.size⟩
theorem Ex.alloc (w : World) (o : Obj) : Ex w (w.alloc o) := (Below.refl _ _).alloc (Nat.le_refl _) _
theorem Md.bk {g h : Nat} {w w' : World} {t : TypeId} {cs : Array Value} (k : Md g w w') (hb : Bk w h t cs) (hne : h ≠ g) : Bk w' h t cs := (k.other h hne hb.lt).trans hb
theorem Md.ex {g : Nat} {w0 w w' : World} (h : Md g w w') (h0 : Ex w0 w) (hg : w0.heap.size ≤ g) : Ex w0 w' := h.below _ hg _ h0
structure Stop (p : Prop) : Prop where go : p
theorem at_any {P : Program} {ops : Array Oper} {rest : List Oper} {d : Option Tmp} {x : Op} {t2 : TypeId} {pos : String} {af : Array Edge} {g : Option (Nat × Bool)} {a : Act} {w : World} {Q : Exit → Act → World → Prop}
  (hw : Region.wanted { dst := d, op := x, type := t2, pos := pos, after := af, guard := g } (yielded ops a.tmps) = true)
  (k : ∀ K : Act → World → Prop, (∀ a w, wpList P ops Q rest a w → K a w) → Oper.wp P { dst := d, op := x, type := t2, pos := pos, after := af, guard := g } a w K Q) : wpList P ops Q ({ dst := d, op := x, type := t2, pos := pos, after := af, guard := g } :: rest) a w :=
 wpList_step fun K hK => by rw [if_pos hw]; exact k K hK
theorem at9 {P : Program} {ops : Array Oper} {rest : List Oper} {d : Option Tmp} {x : Op} {t2 : TypeId} {pos : String} {af : Array Edge} {g : Option (Nat × Bool)} {a : Act} {w : World} {Q : Exit → Act → World → Prop}
 (hw : Region.wanted { dst := d, op := x, type := t2, pos := pos, after := af, guard := g } (yielded ops a.tmps) = true)
 (k : ∀ K : Act → World → Prop, (∀ a w, wpList P ops Q rest a w → K a w) → Oper.wp P { dst := d, op := x, type := t2, pos := pos, after := af, guard := g } a w K Q) : Stop (wpList P ops Q ({ dst := d, op := x, type := t2, pos := pos, after := af, guard := g } :: rest) a w) :=
 ⟨at_any hw k⟩
theorem at_not {P : Program} {ops : Array Oper} {rest : List Oper} {d : Option Tmp} {x : Op} {t2 : TypeId} {pos : String} {af : Array Edge} {g : Option (Nat × Bool)} {a : Act} {w : World} {Q : Exit → Act → World → Prop}
  (hw : Region.wanted { dst := d, op := x, type := t2, pos := pos, after := af, guard := g } (yielded ops a.tmps) = false)
  (k : wpList P ops Q rest (a.put d undef) w) : wpList P ops Q ({ dst := d, op := x, type := t2, pos := pos, after := af, guard := g } :: rest) a w :=
 wpList_step fun K hK => by rw [if_neg (by rw [hw]; simp)]; exact hK _ _ k
theorem at8 {P : Program} {ops : Array Oper} {rest : List Oper} {d : Option Tmp} {x : Op} {t2 : TypeId} {pos : String} {af : Array Edge} {g : Option (Nat × Bool)} {a : Act} {w : World} {Q : Exit → Act → World → Prop}
 (hw : Region.wanted { dst := d, op := x, type := t2, pos := pos, after := af, guard := g } (yielded ops a.tmps) = false)
 (k : wpList P ops Q rest (a.put d undef) w) : Stop (wpList P ops Q ({ dst := d, op := x, type := t2, pos := pos, after := af, guard := g } :: rest) a w) :=
 ⟨at_not hw k⟩
section
variable {P : Program} {ops : Array Oper} {rest : List Oper} {d : Option Tmp} {t2 : TypeId} {pos : String} {af : Array Edge} {g : Option (Nat × Bool)} {a : Act} {w : World} {Q : Exit → Act → World → Prop}
theorem stop_store {t : TypeId} {x y : Operand} (k : Stop (wpList P ops Q ({ dst := d, op := .store t x y, type := t2, pos := pos, after := af, guard := g } :: rest) a w)) : wpList P ops Q ({ dst := d, op := .store t x y, type := t2, pos := pos, after := af, guard := g } :: rest) a w := k.go
def big : Op → Bool
 | .load t _ => [78, 47, 29, 36, 26].contains t
 | .store t _ _ => [78, 47, 29, 36, 26].contains t
 | _ => false
def beq : Op → Bool
 | .binOp .eql t _ _ _ => [36, 26].contains t
 | .binOp .neq t _ _ _ => [36, 26].contains t
 | _ => false
theorem stop_big {o : Oper} (h : big o.op = true) (k : Stop (wpList P ops Q (o :: rest) a w)) : wpList P ops Q (o :: rest) a w := k.go
def bld : Op → Bool
 | .build _ _ => true
 | _ => false
theorem so0 {o : Oper} (h : (big o.op || bld o.op || beq o.op) = true) (k : Stop (wpList P ops Q (o :: rest) a w)) : wpList P ops Q (o :: rest) a w := k.go
def sx (S : List Nat) : Op → Bool
 | .load t _ => S.contains t
 | .store t _ _ => S.contains (1000 + t)
 | .binOp .eql t _ _ _ => S.contains (2000 + t) || S.contains 2000
 | .binOp .neq t _ _ _ => S.contains (3000 + t)
 | .build t _ => S.contains (4000 + t)
 | _ => false
theorem so2 (S : List Nat) {o : Oper} (h : (big o.op || bld o.op || beq o.op || sx S o.op) = true) (k : Stop (wpList P ops Q (o :: rest) a w)) : wpList P ops Q (o :: rest) a w := k.go
theorem so3 (S : List Nat) {o : Oper} (h : (big o.op || bld o.op || sx S o.op) = true) (k : Stop (wpList P ops Q (o :: rest) a w)) : wpList P ops Q (o :: rest) a w := k.go
theorem so4 (S : List Nat) {o : Oper} (h : sx S o.op = true) (k : Stop (wpList P ops Q (o :: rest) a w)) : wpList P ops Q (o :: rest) a w := k.go
end
theorem byteCells_app (a b : List UInt8) : Lib.byteCells (a ++ b) = Lib.byteCells a ++ Lib.byteCells b := by simp [Lib.byteCells]
theorem byteCells_len (l : List UInt8) : (Lib.byteCells l).length = l.length := by simp [Lib.byteCells]
theorem byteCells_get (l : List UInt8) (j : Nat) (h : j < l.length) : (Lib.byteCells l)[j]? = some (.int .u8 (l[j].toNat : Int)) := by simp [Lib.byteCells, h]
theorem byteCells_one {l : List UInt8} {v : Value} (h : v ∈ Lib.byteCells l) : v.oneCell' = true := by
 unfold Lib.byteCells at h
 simp at h
 obtain ⟨b, _, rfl⟩ := h
 rfl
theorem bytes_one (l : List UInt8) : (Lib.byteCells l).toArray.all (·.oneCell') = true := all_oneCell_toArray (fun _ hv => byteCells_one hv)
theorem sm_u8 : (Try.prog.info? 5).map (fun i => (i.zero, i.size, i.bytes)) = some (some (.int .u8 0), 1, 1) := by kernel_rfl
theorem sm_append {ops : Array Oper} {rest : List Oper} {o : Oper} {a : Act} {w : World} {Q : Exit → Act → World → Prop} (hgd : o.guard = none) (s x : Operand)
  (ho : o.op = .call { callee := .builtin .append, args := #[s, x], argTypes := #[23, 23] })
  (base : Nat) (v : Value) (n : Nat) (xs : List Value) (hs : a.eval s = v) (hown : w.ownsRow base 5 1 v n xs)
  (Ad : Option Addr) (m c : Nat) (news : List UInt8) (hx : a.eval x = .slice Ad m c) (hnil : Ad = none → c = 0) (hl : news.length = m)
  (hnews : 0 < m → ∃ ad, Ad = some ad ∧ ∀ j u, (Lib.byteCells news)[j]? = some u → w.cell? (ad.add j) = some u)
  (hbytes : n + m ≤ 140737488355328) (hbase : base ≤ w.heap.size)
  (h : ∀ v' w', w'.ownsRow base 5 1 v' (n + m) (xs ++ Lib.byteCells news) → w.grownBy w' v.ownBlock → wpList Try.prog ops Q rest (a.put o.dst v') w') : wpList Try.prog ops Q (o :: rest) a w := by
 obtain ⟨i0, hi0, hz0, hz1, hz2⟩ := info_parts sm_u8
 cases Ad with
 | none =>
  obtain rfl : c = 0 := hnil rfl
  have hm : m = 0 := by
   rcases Nat.eq_zero_or_pos m with h0 | h0
   ·exact h0
   ·obtain ⟨ad, h1, _⟩ := hnews h0; cases h1
  subst hm
  obtain rfl : news = [] := List.eq_nil_of_length_eq_zero hl
  refine wpList_append_own_none hgd s x _ ho base 5 i0 1 Try.underlying23 hi0 v n xs hs hown hx ?_
  exact h v w (by simpa [Lib.byteCells] using hown) (World.grownBy.refl w _)
 | some ad =>
  refine wpList_append_own _ hgd s x _ ho base 5 i0 _ 1 1 Try.underlying23 hi0 hz0 hz1 hz2 rfl (by omega) v n xs hs hown ad m c (Lib.byteCells news) hx (by simp [Lib.byteCells, hl]) ?_ ?_ (by unfold maxLen; omega) (by omega) hbase (fun v' w' h1 h2 _ => h v' w' h1 h2)
  ·intro j u hu
   have hj : 0 < m := by
    have := (List.getElem?_eq_some_iff.1 hu).1
    simp [Lib.byteCells, hl] at this; omega
   obtain ⟨ad', e, hc⟩ := hnews hj
   cases e
   exact hc j u hu
  ·intro u hu
   unfold Lib.byteCells at hu
   simp at hu
   obtain ⟨b, _, rfl⟩ := hu
   rfl
def ownU (w : World) (B : Nat) (v : Value) (l : List UInt8) : Prop := w.ownsRow B 5 1 v l.length (Lib.byteCells l)
structure Pt where
 ad : Option Addr
 cap : Nat
 l : List UInt8
def Pt.V (p : Pt) : Value := .slice p.ad p.l.length p.cap
structure Pt.In (p : Pt) (w : World) (B : Nat) : Prop where
 cap : p.l.length ≤ p.cap
 nil : p.ad = none → p.cap = 0
 read : 0 < p.l.length → ∃ a o, p.ad = some ⟨a, o, none⟩ ∧ a < B ∧ ∀ i, i < p.l.length → w.cell? ⟨a, o + i, none⟩ = some (.int .u8 (p.l.getD i 0).toNat)
theorem Pt.In.keep {p : Pt} {w w' : World} {B : Nat} (h : p.In w B) (k : Below B w w') : p.In w' B :=
 ⟨h.cap, h.nil, fun h0 => by
  obtain ⟨a, o, e, hB, hc⟩ := h.read h0
  exact ⟨a, o, e, hB, fun i hi => (k.cell (p := ⟨a, _, none⟩) hB).trans (hc i hi)⟩⟩
theorem Pt.In.more {p : Pt} {w : World} {B B' : Nat} (h : p.In w B) (k : B ≤ B') : p.In w B' :=
 ⟨h.cap, h.nil, fun h0 => by
  obtain ⟨a, o, e, hB, hc⟩ := h.read h0
  exact ⟨a, o, e, by omega, hc⟩⟩
theorem Pt.In.ext {p : Pt} {w w' : World} (h : p.In w w.heap.size) (k : Ex w w') : p.In w' w'.heap.size := (h.keep k).more k.size
theorem Pt.In.cells {p : Pt} {w : World} {B : Nat} (h : p.In w B) : 0 < p.l.length → ∃ ad, p.ad = some ad ∧ ∀ j u, (Lib.byteCells p.l)[j]? = some u → w.cell? (ad.add j) = some u := by
 intro h0
 obtain ⟨a, o, e, _, hc⟩ := h.read h0
 refine ⟨_, e, fun j u hu => ?_⟩
 have hj : j < p.l.length := by have := (List.getElem?_eq_some_iff.1 hu).1; simpa [Lib.byteCells] using this
 rw [Addr.add_mid, hc j hj, ← hu]
 simp [Lib.byteCells, hj]
def nilB : Pt := ⟨none, 0, []⟩
theorem nilB_in (w : World) (B : Nat) : nilB.In w B := ⟨Nat.le_refl _, fun _ => rfl, fun h => absurd h (Nat.lt_irrefl 0)⟩
theorem own_pt {w : World} {B : Nat} {v : Value} {l : List UInt8} (h : ownU w B v l) : ∃ p : Pt, v = p.V ∧ p.l = l ∧ p.In w w.heap.size ∧ v.ownBlock = p.V.ownBlock := by
 have h' := h
 obtain ⟨h1, h2 | ⟨g, cap, cur, rfl, hb, hh, hc, hm, hs, ht⟩⟩ := h
 ·refine ⟨⟨none, 0, l⟩, ?_, rfl, ⟨?_, fun _ => rfl, ?_⟩, ?_⟩
  ·unfold Pt.V; simp only; rw [h2.2]; exact h2.1
  ·simp only; rw [h2.2]; exact Nat.le_refl 0
  ·intro h0; simp only at h0; omega
  unfold Pt.V; rw [h2.1]; rfl
 refine ⟨⟨some ⟨g, 0, none⟩, cap, l⟩, rfl, rfl, ⟨hc, (fun h => by cases h), fun _ => ⟨g, 0, rfl, (h'.lt g rfl).2, fun i hi => ?_⟩⟩, rfl⟩
 simp only at hi
 have h3 := World.ownsRow.cellAt h' i (by omega)
 rw [Nat.zero_add, h3]
 simp [Lib.byteCells, hi]
theorem bk_pt {w : World} {g : Nat} {t : TypeId} {l : List UInt8} (h : Bk w g t (Lib.byteCells l).toArray) : (Pt.mk (some ⟨g, 0, none⟩) l.length l).In w w.heap.size :=
 ⟨Nat.le_refl _, (fun h => by cases h), fun _ => ⟨g, 0, rfl, h.lt, fun i hi => by rw [h.cell, Nat.zero_add]; simp [Lib.byteCells]; simp at hi; simp [hi]⟩⟩
theorem Pt.In.only {p : Pt} {w w' : World} {g B : Nat} (h : p.In w B) (ho : Only g w w') (hf : ∀ a, p.ad = some a → a.block ≠ g) : p.In w' B :=
 ⟨h.cap, h.nil, fun h0 => by
  obtain ⟨a, o, e, hB, hc⟩ := h.read h0
  refine ⟨a, o, e, hB, fun i hi => ?_⟩
  rw [← hc i hi]
  simp only [World.cell?, ho.other a (hf _ e)]⟩
def PN (w : World) (B : Nat) (p : Pt) : Prop := p.In w w.heap.size ∧ ∀ a, p.ad = some a → B ≤ a.block ∧ ∃ cs, Bk w a.block 5 cs
theorem PN.ext {w w' : World} {B : Nat} {p : Pt} (h : PN w B p) (k : Ex w w') : PN w' B p := ⟨h.1.ext k, fun a e => ⟨(h.2 a e).1, (h.2 a e).2.elim fun cs hc => ⟨cs, hc.ext k⟩⟩⟩
theorem PN.less {w : World} {B B' : Nat} {p : Pt} (h : PN w B p) (k : B' ≤ B) : PN w B' p := ⟨h.1, fun a e => ⟨Nat.le_trans k (h.2 a e).1, (h.2 a e).2⟩⟩
theorem Bk.ty {w : World} {g : Nat} {t t' : TypeId} {cs cs' : Array Value} (h : Bk w g t cs) (k : Bk w g t' cs') : t = t' := by
 unfold Bk at h k; rw [h] at k; injection k with k; injection k
theorem PN.ne {w : World} {B g : Nat} {p : Pt} (h : PN w B p) {t : TypeId} {cs : Array Value} (hb : Bk w g t cs) (ht : t ≠ 5) : ∀ a, p.ad = some a → a.block ≠ g := fun a e hg => by
 obtain ⟨_, cs', hc⟩ := h.2 a e
 rw [hg] at hc
 exact ht (hb.ty hc)
theorem PN.only' {w w' : World} {B g : Nat} {p : Pt} (h : PN w B p) (ho : Only g w w') (hg : ∀ a, p.ad = some a → a.block ≠ g) : PN w' B p :=
 ⟨by rw [ho.size]; exact h.1.only ho hg, fun a e => ⟨(h.2 a e).1, (h.2 a e).2.elim fun cs hc => ⟨cs, ho.bk hc (hg a e)⟩⟩⟩
theorem PN.only {w w' : World} {B g : Nat} {p : Pt} (h : PN w B p) (ho : Only g w w') (hg : g < B) : PN w' B p := h.only' ho (fun a e => by have := (h.2 a e).1; omega)
theorem PN.onlyT {w w' : World} {B g : Nat} {p : Pt} (h : PN w B p) (ho : Only g w w') {t : TypeId} {cs : Array Value} (hb : Bk w g t cs) (ht : t ≠ 5) : PN w' B p := h.only' ho (h.ne hb ht)
theorem nilB_pn (w : World) (B : Nat) : PN w B nilB := ⟨nilB_in _ _, fun a e => by cases e⟩
theorem own_pn {w : World} {B : Nat} {v : Value} {l : List UInt8} (h : ownU w B v l) : ∃ p : Pt, v = p.V ∧ p.l = l ∧ PN w B p := by
 obtain ⟨p, h1, h2, h3, h4⟩ := own_pt h
 refine ⟨p, h1, h2, h3, fun a e => ?_⟩
 have hb : v.ownBlock = some a.block := by rw [h4]; unfold Pt.V; rw [e]; rfl
 refine ⟨(World.ownsRow.lt h a.block hb).1, ?_⟩
 obtain ⟨_, k | ⟨g, cap, cur, rfl, _, hh, _⟩⟩ := h
 ·rw [k.1] at hb; cases hb
 obtain rfl : g = a.block := by simpa [Value.ownBlock] using hb
 exact ⟨_, hh⟩
def CPost (l : List UInt8) (w : World) (e : Ending) (w' : World) : Prop := ∃ p : Pt, e = .returned p.V ∧ p.l = l ∧ PN w' w.heap.size p ∧ Ex w w'
def PtPost (l : List UInt8) (w : World) (e : Ending) (w' : World) : Prop := ∃ p : Pt, e = .returned p.V ∧ p.l = l ∧ p.In w' w'.heap.size ∧ Ex w w'
def strL (l : List UInt8) : ByteArray := ⟨l.toArray⟩
theorem map_back (l : List UInt8) : List.map ((fun n : Int => UInt8.ofNat n.toNat) ∘ fun b : UInt8 => (b.toNat : Int)) l = l := by
 induction l with
 | nil => rfl
 | cons x m ih => simp only [List.map_cons, ih]; simp
theorem pt_conv (p : Pt) (w : World) {B : Nat} (h : p.In w B) : (convert 23 9 (.slice p.ad p.l.length p.cap)).run Try.prog w = .ok (.string (strL p.l)) w := by
 by_cases h0 : 0 < p.l.length
 ·obtain ⟨a, o, e, _, hc⟩ := h.read h0
  have hx := run_convert_bytes_arg (P := Try.prog) w 23 5 Try.underlying23 Try.underlying5 a o p.l.length p.cap (p.l.map fun b => (b.toNat : Int)) (by simp) (fun i hi => by rw [hc i hi]; simp [List.getD, hi]) 9 Try.underlying9
  rw [e, hx]
  congr 2
  unfold strOfNums strL
  congr 1
  simp
  exact map_back p.l
 have hl : p.l = [] := List.eq_nil_of_length_eq_zero (by omega)
 rw [hl]
 rw [run_convert_bytes_string w 23 9 5 _ _ _ Try.underlying23 Try.underlying5 Try.underlying9]
 cases p.ad <;> simp [Conv.bytesToString, loadCells]
 all_goals rfl
theorem strL_beq (l m : List UInt8) : ((strL l).toList == (strL m).toList) = decide (l = m) := by
 rw [ByteArray.toList_eq, ByteArray.toList_eq]
 show (l == m) = _
 by_cases h : l = m
 ·subst h; simp
 rw [decide_eq_false h]; exact beq_eq_false_iff_ne.2 h
def digV (l : List UInt8) : Value := .agg (Lib.byteCells l).toArray
theorem len16 {l : List UInt8} (h : l.length = 16) : ∃ a b c d e f g i j k m n o p q r, l = [a, b, c, d, e, f, g, i, j, k, m, n, o, p, q, r] := by
 match l, h with
 | [a, b, c, d, e, f, g, i, j, k, m, n, o, p, q, r], _ => exact ⟨a, b, c, d, e, f, g, i, j, k, m, n, o, p, q, r, rfl⟩
theorem len4 {l : List UInt8} (h : l.length = 4) : ∃ a b c d, l = [a, b, c, d] := by
 match l, h with
 | [a, b, c, d], _ => exact ⟨a, b, c, d, rfl⟩
theorem eqItems_bytes (P : Program) (w : World) (d : Nat) {e : TypeId} (he : P.plainKey e = true) (hu : P.underlying e = some (.int .u8)) (l m : List UInt8) (hlm : l.length = m.length) :
  ∀ k, k ≤ l.length → (Op.eqItems (d + 1) e 1 (Lib.byteCells l).toArray (Lib.byteCells m).toArray (List.range' (l.length - k) k)).run P w = .ok (decide (l.drop (l.length - k) = m.drop (l.length - k))) w := by
 intro k
 induction k with
 | zero =>
  intro _
  simp [Op.eqItems, List.drop_of_length_le, hlm]
 | succ k ih =>
  intro hk
  have h1 : l.length - (k + 1) < l.length := by omega
  have h2 : l.length - (k + 1) < m.length := by omega
  have h3 : l.length - (k + 1) + 1 = l.length - k := by omega
  rw [List.range'_succ, h3]
  simp only [Op.eqItems, Sem.run_bind, Nat.mul_one]
  rw [run_part_plain w he (v := .int .u8 (l[l.length - (k + 1)].toNat : Int)) (by simpa using byteCells_get l _ h1)]
  simp only [Result.andThen_ok]
  rw [run_part_plain w he (v := .int .u8 (m[l.length - (k + 1)].toNat : Int)) (by simpa using byteCells_get m _ h2)]
  simp only [Result.andThen_ok]
  rw [run_equalIn_int w d e .u8 .u8 _ _ hu]
  simp only [Result.andThen_ok]
  have e1 : l.drop (l.length - (k + 1)) = l[l.length - (k + 1)] :: l.drop (l.length - k) := by rw [List.drop_eq_getElem_cons h1, h3]
  have e2 : m.drop (l.length - (k + 1)) = m[l.length - (k + 1)] :: m.drop (l.length - k) := by rw [List.drop_eq_getElem_cons h2, h3]
  rw [e1, e2]
  by_cases hb : l[l.length - (k + 1)] = m[l.length - (k + 1)]
  ·rw [hb]
   simp only [BEq.rfl, Bool.not_true, Bool.false_eq_true, if_false]
   rw [ih (by omega)]
   simp
  ·have : ((l[l.length - (k + 1)].toNat : Int) == (m[l.length - (k + 1)].toNat : Int)) = false := by
    simp only [beq_eq_false_iff_ne, ne_eq]
    intro h
    exact hb (UInt8.toNat_inj.1 (by omega))
   rw [this]
   simp [hb]
theorem Try.u8plain : Try.prog.plainKey 5 = true := by kernel_rfl
theorem Try.cells5 : Try.prog.cellsOf 5 = 1 := by kernel_rfl
theorem info_u8 : ∃ i, Try.prog.info? 5 = some i := by
 have h := Try.cells5
 unfold Program.cellsOf at h
 cases hq : Try.prog.info? 5 with
 | none => simp [hq] at h
 | some i => exact ⟨i, rfl⟩
theorem eq_digest (w : World) (d : Nat) (l m : List UInt8) (hl : l.length = 16) (hm : m.length = 16) :
  (Op.equalIn (d + 2) 36 (digV l) (digV m)).run Try.prog w = .ok (decide (l = m)) w := by
 obtain ⟨i, hi⟩ := info_u8
 unfold digV
 rw [run_equalIn_array w (d + 1) _ _ Try.underlying36 hi, Try.cells5]
 have := eqItems_bytes Try.prog w d Try.u8plain Try.underlying5 l m (by omega) 16 (by omega)
 rw [hl] at this
 simpa [List.range_eq_range'] using this
theorem eq_id (w : World) (d : Nat) (l m : List UInt8) (hl : l.length = 4) (hm : m.length = 4) :
  (Op.equalIn (d + 2) 26 (digV l) (digV m)).run Try.prog w = .ok (decide (l = m)) w := by
 obtain ⟨i, hi⟩ := info_u8
 unfold digV
 rw [run_equalIn_array w (d + 1) _ _ Try.underlying26 hi, Try.cells5]
 have := eqItems_bytes Try.prog w d Try.u8plain Try.underlying5 l m (by omega) 4 (by omega)
 rw [hl] at this
 simpa [List.range_eq_range'] using this
theorem Try.guardDig : Try.prog.eqGuardType Try.prog.depth 36 = false := by kernel_rfl
theorem Try.guardId : Try.prog.eqGuardType Try.prog.depth 26 = false := by kernel_rfl
section
variable {o : Oper} {a : Act} {w : World} {K : Act → World → Prop} {Q : Exit → Act → World → Prop}
theorem wp_eql_dig (t' : TypeId) (x y : Operand) (ho : o.op = .binOp .eql 36 x y t')
  (l m : List UInt8) (hl : l.length = 16) (hm : m.length = 16) (hx : a.eval x = digV l) (hy : a.eval y = digV m) (h : K (a.put o.dst (.bool (decide (l = m)))) w) : o.wp Try.prog a w K Q := by
 have heq := eq_digest w 9998 l m hl hm
 unfold Oper.wp execOp
 simp only [ho, hx, hy]
 unfold digV at heq ⊢
 simp [run_eqGuard_agg, run_eql_struct, Try.guardDig, heq, Sem.run_bind, Result.andThen, Oper.upon]
 exact h
theorem wp_eql_id (t' : TypeId) (x y : Operand) (ho : o.op = .binOp .eql 26 x y t')
  (l m : List UInt8) (hl : l.length = 4) (hm : m.length = 4) (hx : a.eval x = digV l) (hy : a.eval y = digV m) (h : K (a.put o.dst (.bool (decide (l = m)))) w) : o.wp Try.prog a w K Q := by
 have heq := eq_id w 9998 l m hl hm
 unfold Oper.wp execOp
 simp only [ho, hx, hy]
 unfold digV at heq ⊢
 simp [run_eqGuard_agg, run_eql_struct, Try.guardId, heq, Sem.run_bind, Result.andThen, Oper.upon]
 exact h
theorem wp_ldp {t ty : TypeId} {C : List Value} (ds : List Value) (x : Operand) (g off : Nat) (dd : TypeDesc) (ho : o.op = .load ty x) (ha : a.eval x = .pointer (some ⟨g, off, none⟩)) (h : Bk w g t C.toArray) (hd : (C.drop off).take ds.length = ds)
  (hu : Try.prog.underlying ty = some dd) (hr : dd.isRow = true) (hs : (Try.prog.info? ty).map (·.size) = some ds.length) (hk : K (a.put o.dst (.agg ds.toArray)) w) : o.wp Try.prog a w K Q :=
 wp_load_mid ty x ho g off ha ds dd (h.part off ds hd) hu hr hs hk
theorem wp_stp {t ty : TypeId} {C : List Value} (ds : List Value) (x y : Operand) (g off : Nat) (ho : o.op = .store ty x y) (ha : a.eval x = .pointer (some ⟨g, off, none⟩)) (hy : a.eval y = .agg ds.toArray) (h : Bk w g t C.toArray) (hl : off + ds.length ≤ C.length)
  (hs : (Try.prog.info? ty).map (·.size) = some ds.length) (h1 : ds.toArray.all (·.oneCell') = true) (hk : ∀ w', Bk w' g t (C.take off ++ ds ++ C.drop (off + ds.length)).toArray → Only g w w' → K (a.put o.dst undef) w') : o.wp Try.prog a w K Q :=
 wp_store_mid ty x y ho g off ds.toArray ha hy (h.there off _ (by simpa using hl)) (by simpa using hs) h1 (hk _ (seg_set ds off C hl w g t h) (Only.setCells g ds off w))
end
end Go.Proofs.Ytopamplmpfndlaa
