/- A region that draws its order: an invariant on what has been done, on what each operation gave, and on memory. -/
import Derived.Test.YtgkmfhhoifbbbaaDoorFlV
namespace Go.Proofs.YtgkmfhhoifbbbaaDoor
open Go.RowKit
def upd (f : Nat → Value) (i : Nat) (v : Value) : Nat → Value := fun j => if j = i then v else f j
theorem upd_same (f : Nat → Value) (i : Nat) (v : Value) : upd f i v i = v := if_pos rfl
theorem upd_ne (f : Nat → Value) {i j : Nat} (v : Value) (h : j ≠ i) : upd f i v j = f j := if_neg h
section
variable {P : Program} {ops : Array Oper} {Q : Exit → Act → World → Prop} {a0 : Act} {J : Array Bool → (Nat → Value) → World → Prop}
structure Sg (ops : Array Oper) (a0 : Act) (J : Array Bool → (Nat → Value) → World → Prop) (f : Nat → Value) (listed : Array Bool) (a : Act) (w : World) : Prop where
  inv : J listed f w
  defers : a.defers = a0.defers
  size : a.tmps.size = a0.tmps.size
  done : ∀ (i : Nat) (o : Oper), ops[i]? = some o → listed.getD i false = true → ∀ t, o.dst = some t → a.tmps.getD t undef = f i
  rest : ∀ t, (∀ (i : Nat) (o : Oper), ops[i]? = some o → listed.getD i false = true → o.dst ≠ some t) → a.tmps.getD t undef = a0.tmps.getD t undef
  closed : ∀ (i : Nat) (o : Oper), ops[i]? = some o → listed.getD i false = true → ∀ e, e ∈ o.after → Region.binds .any e = true → listed.getD e.on false = true
def AskG (P : Program) (ops : Array Oper) (Q : Exit → Act → World → Prop) (a0 : Act) (J : Array Bool → (Nat → Value) → World → Prop) (i : Nat) (o : Oper) : Prop :=
  ∀ listed f a w, J listed f w → a.tmps.size = a0.tmps.size → listed.size = ops.size → listed.getD i false = false →
    (∀ e, e ∈ o.after → Region.binds .any e = true → listed.getD e.on false = true ∧ ∀ oj, ops[e.on]? = some oj → ∀ t, oj.dst = some t → a.tmps.getD t undef = f e.on) →
    (∀ t, (∀ (j : Nat) oj, ops[j]? = some oj → oj.dst ≠ some t) → a.tmps.getD t undef = a0.tmps.getD t undef) →
    (∀ (t : Tmp) (j : Nat) (oj : Oper), ops[j]? = some oj → oj.dst = some t → (∃ e, e ∈ oj.after ∧ Region.binds .any e = true ∧ e.on = i) → a.tmps.getD t undef = a0.tmps.getD t undef) →
    if Region.wanted o (yielded ops a.tmps) = true then ∀ K : Act → World → Prop, (∀ v w', J (listed.setIfInBounds i true) (upd f i v) w' → K (a.put o.dst v) w') → o.wp P a w K Q else J (listed.setIfInBounds i true) (upd f i undef) w
theorem Sg.step (hd : dstB ops = true) {f : Nat → Value} {listed : Array Bool} {a : Act} {w : World} (h : Sg ops a0 J f listed a w) {i : Nat} {o : Oper} (hi : ops[i]? = some o) (hn : listed.getD i false = false) (hlt : i < listed.size) (hcl : ∀ e, e ∈ o.after → Region.binds .any e = true → listed.getD e.on false = true)
    (hfit : ∀ t, o.dst = some t → t < a0.tmps.size) {v : Value} {w' : World} (hv : J (listed.setIfInBounds i true) (upd f i v) w') : Sg ops a0 J (upd f i v) (listed.setIfInBounds i true) (a.put o.dst v) w' := by
  refine ⟨hv, ?_, ?_, ?_, ?_, ?_⟩
  · cases o.dst <;> exact h.defers
  · cases o.dst with
    | none => exact h.size
    | some d => simpa [Act.put] using h.size
  · intro j oj hj hl
    rcases listed_set hl with rfl | hl'
    · rw [hi] at hj; cases hj
      intro t ht
      have := hfit t ht
      rw [ht, upd_same]
      simp [Act.put, h.size, this]
    · have hne : i ≠ j := by rintro rfl; rw [hn] at hl'; cases hl'
      intro t ht
      rw [getD_put _ _ _ _ (dstB_ne hd (Ne.symm hne) hj hi ht), upd_ne _ _ (Ne.symm hne)]
      exact h.done j oj hj hl' t ht
  · intro t ht
    have h1 : o.dst ≠ some t := by
      refine ht i o hi ?_
      simp [hlt]
    rw [getD_put _ _ _ _ h1]
    exact h.rest t fun j oj hj hl => ht j oj hj (by
      by_cases e : i = j
      · subst e; rw [hn] at hl; cases hl
      · simpa [Array.getElem?_setIfInBounds_ne e] using hl)
  · intro j oj hj hl e he hb
    have mono : ∀ k, listed.getD k false = true → (listed.setIfInBounds i true).getD k false = true := fun k hk => by
      by_cases h1 : i = k
      · subst h1; rw [hn] at hk; cases hk
      · rw [gset h1 false]; exact hk
    rcases listed_set hl with rfl | hl'
    · rw [hi] at hj; cases hj
      exact mono _ (hcl e he hb)
    · exact mono _ (h.closed j oj hj hl' e he hb)
theorem flow_gen (hb : backB ops = true) (hd : dstB ops = true)
    (hfit : ∀ (i : Nat) (o : Oper), ops[i]? = some o → ∀ t, o.dst = some t → t < a0.tmps.size)
    (H : ∀ (i : Nat) (o : Oper), ops[i]? = some o → AskG P ops Q a0 J i o)
    (L : ∀ listed f a w, (∀ i, i < ops.size → listed.getD i false = true) → J listed f w → a.defers = a0.defers → a.tmps.size = a0.tmps.size → (∀ (i : Nat) (o : Oper), ops[i]? = some o → ∀ t, o.dst = some t → a.tmps.getD t undef = f i) →
      (∀ t, (∀ (i : Nat) (o : Oper), ops[i]? = some o → o.dst ≠ some t) → a.tmps.getD t undef = a0.tmps.getD t undef) → Q .normal a w) :
    ∀ fuel f listed a w, listed.size = ops.size → unl listed ≤ fuel → Sg ops a0 J f listed a w → wpAny P .any ops Q fuel listed a w := by
  intro fuel
  induction fuel with
  | zero =>
    intro f listed a w hs hu h
    have hall : ∀ i, i < ops.size → listed.getD i false = true := by
      intro i hi
      cases h2 : listed.getD i false with
      | true => rfl
      | false => have := unl_pos (i := i) (by omega) h2; omega
    refine any_end (fun i hi => ?_) (L listed f a w hall h.inv h.defers h.size (fun i o ho => h.done i o ho (hall i (Array.getElem?_eq_some_iff.1 ho).1)) (fun t ht => h.rest t fun i o ho _ => ht i o ho)) 0
    have h3 := hall i hi
    have : i < listed.size := by omega
    simpa [this] using h3
  | succ fl ih =>
    intro f listed a w hs hu h
    by_cases hq : ∀ i, i < ops.size → listed.getD i false = true
    · refine any_end (fun i hi => ?_) (L listed f a w hq h.inv h.defers h.size (fun i o ho => h.done i o ho (hq i (Array.getElem?_eq_some_iff.1 ho).1)) (fun t ht => h.rest t fun i o ho _ => ht i o ho)) (fl + 1)
      have h3 := hq i hi
      have : i < listed.size := by omega
      simpa [this] using h3
    · have ⟨n, hn, hnl⟩ : ∃ n, n < ops.size ∧ listed.getD n false = false := by
        apply Classical.byContradiction
        intro hc
        apply hq
        intro i hi
        cases h2 : listed.getD i false with
        | true => rfl
        | false => exact absurd ⟨i, hi, h2⟩ hc
      refine ⟨fun h0 => ?_, fun i hi => ?_⟩
      · obtain ⟨j, hj⟩ := least_ready hb hs n hn hnl
        rw [h0] at hj; cases hj
      · obtain ⟨hun, o, ho, hall⟩ := mem_ready.1 hi
        have hlt : i < ops.size := (Array.getElem?_eq_some_iff.1 ho).1
        have hil : i < listed.size := by omega
        have hun' : listed.getD i false = false := by simpa [hil] using hun
        have hq := H i o ho listed f a w h.inv h.size hs hun' (fun e he hbd => ⟨hall e he hbd, fun oj hoj => h.done e.on oj hoj (hall e he hbd)⟩) (fun t ht => h.rest t fun j oj hoj _ => ht j oj hoj) (fun t j oj hoj hd' ⟨e, he, hbd, hon⟩ => h.rest t fun k ok hok hlk => by
          by_cases h1 : k = j
          · rw [h1] at hlk
            have := h.closed j oj hoj hlk e he hbd
            rw [hon, hun'] at this; cases this
          · exact dstB_ne hd (Ne.symm h1) hoj hok hd')
        have key : ∀ v w', J (listed.setIfInBounds i true) (upd f i v) w' → wpAny P .any ops Q fl (listed.setIfInBounds i true) (a.put o.dst v) w' := fun v w' hv =>
          ih _ _ _ _ (by simpa using hs) (by have := unl_set hil hun'; omega) (h.step hd ho hun' hil hall (hfit i o ho) hv)
        unfold wpOp
        simp only [ho]
        split
        · rename_i hw
          rw [if_pos hw] at hq
          exact .inl (hq _ key)
        · rename_i hw
          rw [if_neg hw] at hq
          exact key _ w hq
theorem wp_region_gen {w0 : World} {id : Nat} {l : List Oper} (J : Array Bool → (Nat → Value) → World → Prop) (hm : P.follows .mixedOrders = true) (hb : backB l.toArray = true) (hd : dstB l.toArray = true)
    (hfit : ∀ (i : Nat) (o : Oper), l.toArray[i]? = some o → ∀ t, o.dst = some t → t < a0.tmps.size)
    (h0 : ∀ listed f, (∀ i, listed.getD i false = false) → J listed f w0.drew)
    (H : ∀ (i : Nat) (o : Oper), l.toArray[i]? = some o → AskG P l.toArray Q a0 J i o)
    (L : ∀ listed f w, (∀ i, i < l.toArray.size → listed.getD i false = true) → J listed f w → Q .normal (putAll f 0 l a0) w) :
    (Code.region id l.toArray true).wp P Q a0 w0 := by
  refine wp_region_any hm ?_
  have hz : ∀ i, (Array.replicate l.toArray.size false).getD i false = false := by
    intro i
    rw [Array.getD_eq_getD_getElem?, Array.getElem?_replicate]
    split <;> rfl
  refine flow_gen hb hd hfit H (fun listed f a w hall hI hdef hsz h1 h2 => by
    rw [act_all l hd hdef hsz hfit h1 h2]
    exact L listed f w hall hI) _ (fun _ => undef) _ _ _ (by simp) ?_ ⟨h0 _ _ hz, rfl, rfl, ?_, fun _ _ => rfl, ?_⟩
  · unfold unl
    refine Nat.le_trans List.countP_le_length ?_
    simp
  · intro i o hi hli
    rw [hz i] at hli; cases hli
  · intro i o hi hli
    rw [hz i] at hli; cases hli
end
/-- values that hang on nothing: each operation's; one private thing besides -/
structure JP (base : World) (φ : Nat → Value → World → Prop) (S : Array Bool → (Nat → Value) → World → Prop) (listed : Array Bool) (f : Nat → Value) (w : World) : Prop where
  ext : Ex base w
  vals : ∀ i, listed.getD i false = true → φ i (f i) w
  priv : S listed f w
theorem JP.next {base : World} {φ : Nat → Value → World → Prop} {S : Array Bool → (Nat → Value) → World → Prop} {listed : Array Bool} {f : Nat → Value} {w w' : World} (h : JP base φ S listed f w) {i : Nat} {v : Value}
    (hst : ∀ j u, φ j u w → φ j u w') (hx : Ex base w') (hv : φ i v w') (hS : S (listed.setIfInBounds i true) (upd f i v) w') : JP base φ S (listed.setIfInBounds i true) (upd f i v) w' := by
  refine ⟨hx, fun j hj => ?_, hS⟩
  by_cases e : j = i
  · subst e; rw [upd_same]; exact hv
  · rw [upd_ne _ _ e]
    rcases listed_set hj with rfl | hj
    · exact absurd rfl e
    · exact hst _ _ (h.vals j hj)
end Go.Proofs.YtgkmfhhoifbbbaaDoor
