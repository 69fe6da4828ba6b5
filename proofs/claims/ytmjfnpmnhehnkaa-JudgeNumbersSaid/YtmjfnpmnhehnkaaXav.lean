/- FlE -/
import Derived.Test.YtmjfnpmnhehnkaaXau
namespace Go.Proofs.Ytmjfnpmnhehnkaa
open Go.RowKit
section
variable {P : Program} {ops : Array Oper} {Q : Exit → Act → World → Prop} {a0 : Act} {w0 : World} {φ : Nat → Value → World → Prop}
theorem Ex.undrew {w w' : World} (h : Ex w w') : Ex w.drew w' := ⟨h.os, h.tape, h.output, h.size, h.block⟩
theorem flow_goR (c N : Nat) (hN : ops.size = N + 1) (hb : backB ops = true) (hl : lastB ops N = true) (hd : dstB ops = true) (hst : ∀ i v w w', φ i v w → Ex w w' → φ i v w')
    (hfit : ∀ (i : Nat) (o : Oper), ops[i]? = some o → ∀ t, o.dst = some t → t < a0.tmps.size)
    (H : ∀ i o, c < i → i < N → ops[i]? = some o → Ask P ops Q a0 w0 φ i o)
    (L : ∀ a w, Ex w0 w → a.defers = a0.defers → a.tmps.size = a0.tmps.size → (∀ i o, i < N → ops[i]? = some o → ∃ v, φ i v w ∧ ∀ t, o.dst = some t → a.tmps.getD t undef = v) →
      (∀ t, (∀ i o, i < N → ops[i]? = some o → o.dst ≠ some t) → a.tmps.getD t undef = a0.tmps.getD t undef) → wpOp P ops Q N (Q .normal) a w) :
    ∀ fuel listed a w, listed.size = N + 1 → listed.getD N false = false → (∀ j, j ≤ c → listed.getD j false = true) → unl listed ≤ fuel → St ops a0 w0 φ listed a w → wpAny P .any ops Q fuel listed a w := by
  intro fuel
  induction fuel with
  | zero =>
    intro listed a w hs hn _ hu _
    have := unl_pos (i := N) (by omega) hn
    omega
  | succ f ih =>
    intro listed a w hs hn hc hu h
    refine ⟨fun h0 => ?_, fun i hi => ?_⟩
    · obtain ⟨j, hj⟩ := least_ready hb (by omega) N (by omega) hn
      rw [h0] at hj; cases hj
    · obtain ⟨hun, o, ho, hall⟩ := mem_ready.1 hi
      have hlt : i < ops.size := (Array.getElem?_eq_some_iff.1 ho).1
      have hil : i < listed.size := by omega
      have hun' : listed.getD i false = false := by simpa [hil] using hun
      have hci : c < i := by
        rcases Nat.lt_or_ge c i with hx | hx
        · exact hx
        · rw [hc i hx] at hun'; cases hun'
      by_cases hiN : i = N
      · subst hiN
        have hdone : ∀ j, j < i → listed.getD j false = true := fun j hj => all_below hl ho hall h.closed i j hj (by omega)
        refine wpOp_mono (fun a' w' hq => any_end (fun j hj => ?_) hq f) (L a w h.ext h.defers h.size (fun j oj hj hoj => h.done j oj hoj (hdone j hj)) (fun t ht => h.rest t fun j oj hoj hjl => ?_))
        · by_cases e : i = j
          · subst e; simp [hil]
          · have := hdone j (by omega)
            have hjs : j < listed.size := by omega
            rw [gset e]
            simpa [hjs] using this
        · by_cases e : j = i
          · subst e; rw [hun'] at hjl; cases hjl
          · exact ht j oj (by have := (Array.getElem?_eq_some_iff.1 hoj).1; omega) hoj
      · have hq := H i o hci (by omega) ho a w h.ext h.size (fun e he hbd oj hoj => h.done e.on oj hoj (hall e he hbd)) (fun t ht => h.rest t fun j oj hoj _ => ht j oj hoj)
        have key : ∀ v w', Ex w w' → φ i v w' → wpAny P .any ops Q f (listed.setIfInBounds i true) (a.put o.dst v) w' := fun v w' hw hv =>
          ih _ _ _ (by simpa using hs) (by rw [gset hiN]; exact hn) (fun j hj => by rw [gset (by omega)]; exact hc j hj) (by have := unl_set hil hun'; omega)
            (h.step hd hst ho hun' hil hall (hfit i o ho) hw hv)
        unfold wpOp
        simp only [ho]
        split
        · rename_i hw
          rw [if_pos hw] at hq
          exact .inl (hq _ key)
        · rename_i hw
          rw [if_neg hw] at hq
          exact key undef w (Ex.refl w) hq
def lateB (ops : Array Oper) (c : Nat) : Bool := (List.range ops.size).all fun i => decide (i ≤ c) || match ops[i]? with
  | none => false
  | some o => o.after.toList.any fun e => Region.binds .any e && decide (c ≤ e.on)
theorem lateB_spec {c : Nat} (h : lateB ops c = true) {i : Nat} {o : Oper} (hi : ops[i]? = some o) (hc : c < i) : ∃ e, e ∈ o.after ∧ Region.binds .any e = true ∧ c ≤ e.on := by
  unfold lateB at h
  rw [List.all_eq_true] at h
  have h1 := h i (by rw [List.mem_range]; exact (Array.getElem?_eq_some_iff.1 hi).1)
  rw [Bool.or_eq_true] at h1
  rcases h1 with h1 | h1
  · have : i ≤ c := by simpa using h1
    omega
  rw [hi] at h1
  simp only [List.any_eq_true] at h1
  obtain ⟨e, h4, h5⟩ := h1
  simp at h5
  exact ⟨e, by simpa using h4, h5.1, h5.2⟩
/-- what is asked of the operation between -/
def Cut (P : Program) (ops : Array Oper) (Q : Exit → Act → World → Prop) (a0 : Act) (c N : Nat) (φ ψ : Nat → Value → World → Prop) (a : Act) (w : World) (o : Oper) (a' : Act) (w' : World) : Prop :=
  ∃ v, a' = a.put o.dst v ∧ ψ c v w' ∧ (∀ i u, i < c → φ i u w → ψ i u w') ∧ (∀ i o, c < i → i < N → ops[i]? = some o → Ask P ops Q a0 w'.drew ψ i o) ∧
    (∀ a w, Ex w'.drew w → a.defers = a0.defers → a.tmps.size = a0.tmps.size → (∀ i o, i < N → ops[i]? = some o → ∃ v, ψ i v w ∧ ∀ t, o.dst = some t → a.tmps.getD t undef = v) →
      (∀ t, (∀ i o, i < N → ops[i]? = some o → o.dst ≠ some t) → a.tmps.getD t undef = a0.tmps.getD t undef) → wpOp P ops Q N (Q .normal) a w)
theorem flow_cut (c N : Nat) {ψ : Nat → Value → World → Prop} (hN : ops.size = N + 1) (hcN : c < N) (hb : backB ops = true) (hl : lastB ops c = true) (hl2 : lastB ops N = true) (hlt : lateB ops c = true) (hd : dstB ops = true) (hst : ∀ i v w w', φ i v w → Ex w w' → φ i v w') (hst2 : ∀ i v w w', ψ i v w → Ex w w' → ψ i v w')
    (hfit : ∀ (i : Nat) (o : Oper), ops[i]? = some o → ∀ t, o.dst = some t → t < a0.tmps.size)
    (H : ∀ i o, i < c → ops[i]? = some o → Ask P ops Q a0 w0 φ i o)
    (L : ∀ a w o, ops[c]? = some o → Ex w0 w → a.defers = a0.defers → a.tmps.size = a0.tmps.size → (∀ i o, i < c → ops[i]? = some o → ∃ v, φ i v w ∧ ∀ t, o.dst = some t → a.tmps.getD t undef = v) →
      (∀ t, (∀ i o, i < c → ops[i]? = some o → o.dst ≠ some t) → a.tmps.getD t undef = a0.tmps.getD t undef) → wpOp P ops Q c (Cut P ops Q a0 c N φ ψ a w o) a w) :
    ∀ fuel listed a w, listed.size = N + 1 → (∀ j, c ≤ j → listed.getD j false = false) → unl listed ≤ fuel → St ops a0 w0 φ listed a w → wpAny P .any ops Q fuel listed a w := by
  intro fuel
  induction fuel with
  | zero =>
    intro listed a w hs hn hu _
    have := unl_pos (i := c) (by omega) (hn c (Nat.le_refl _))
    omega
  | succ f ih =>
    intro listed a w hs hn hu h
    refine ⟨fun h0 => ?_, fun i hi => ?_⟩
    · obtain ⟨j, hj⟩ := least_ready hb (by omega) c (by omega) (hn c (Nat.le_refl _))
      rw [h0] at hj; cases hj
    · obtain ⟨hun, o, ho, hall⟩ := mem_ready.1 hi
      have hlt' : i < ops.size := (Array.getElem?_eq_some_iff.1 ho).1
      have hil : i < listed.size := by omega
      have hun' : listed.getD i false = false := by simpa [hil] using hun
      have hic : i ≤ c := by
        rcases Nat.lt_or_ge c i with hx | hx
        · obtain ⟨e, he, hbd, hon⟩ := lateB_spec hlt ho hx
          have := hall e he hbd
          rw [hn e.on hon] at this; cases this
        · exact hx
      by_cases hiN : i = c
      · subst hiN
        have hdone : ∀ j, j < i → listed.getD j false = true := fun j hj => all_below hl ho hall h.closed i j hj (by omega)
        refine wpOp_mono (fun a' w' hq => ?_) (L a w o ho h.ext h.defers h.size (fun j oj hj hoj => h.done j oj hoj (hdone j hj)) (fun t ht => h.rest t fun j oj hoj hjl => ?_))
        · obtain ⟨v, rfl, hv, htr, H2, L2⟩ := hq
          have hset : ∀ j, j ≤ i → (listed.setIfInBounds i true).getD j false = true := by
            intro j hj
            by_cases e : i = j
            · subst e; simp [hil]
            · rw [gset e]; exact hdone j (by omega)
          have hset2 : ∀ j, i < j → (listed.setIfInBounds i true).getD j false = false := by
            intro j hj
            rw [gset (by omega)]; exact hn j (by omega)
          refine flow_goR (w0 := w'.drew) i N hN hb hl2 hd hst2 hfit H2 L2 f _ _ _ (by simpa using hs) (hset2 N hcN) hset (by have := unl_set hil hun'; omega) ⟨(Ex.refl w').undrew, ?_, ?_, ?_, ?_, ?_⟩
          · cases o.dst <;> exact h.defers
          · cases o.dst with
            | none => exact h.size
            | some d => simpa [Act.put] using h.size
          · intro j oj hj hjl
            by_cases e : i = j
            · subst e
              rw [ho] at hj; cases hj
              refine ⟨v, hv, fun t ht => ?_⟩
              have := hfit i o ho t ht
              rw [ht]
              simp [Act.put, h.size, this]
            · have hji : j < i := by
                rcases Nat.lt_or_ge i j with hx | hx
                · rw [hset2 j hx] at hjl; cases hjl
                · omega
              obtain ⟨u, hu1, hu2⟩ := h.done j oj hj (hdone j hji)
              refine ⟨u, htr j u hji hu1, fun t ht => ?_⟩
              rw [getD_put _ _ _ _ (dstB_ne hd (Ne.symm e) hj ho ht)]
              exact hu2 t ht
          · intro t ht
            rw [getD_put _ _ _ _ (ht i o ho (hset i (Nat.le_refl _)))]
            refine h.rest t fun j oj hj hjl => ?_
            rcases Nat.lt_or_ge i j with hx | hx
            · rw [hn j (by omega)] at hjl; cases hjl
            · exact ht j oj hj (hset j hx)
          · intro j oj hj hjl e he hbd
            have h1 := backB_spec hb hj he hbd
            have hji : j ≤ i := by
              rcases Nat.lt_or_ge i j with hx | hx
              · rw [hset2 j hx] at hjl; cases hjl
              · exact hx
            exact hset e.on (by omega)
        · rcases Nat.lt_or_ge j i with hx | hx
          · exact ht j oj hx hoj
          · rw [hn j hx] at hjl; cases hjl
      · have hq := H i o (by omega) ho a w h.ext h.size (fun e he hbd oj hoj => h.done e.on oj hoj (hall e he hbd)) (fun t ht => h.rest t fun j oj hoj _ => ht j oj hoj)
        have key : ∀ v w', Ex w w' → φ i v w' → wpAny P .any ops Q f (listed.setIfInBounds i true) (a.put o.dst v) w' := fun v w' hw hv =>
          ih _ _ _ (by simpa using hs) (fun j hj => by rw [gset (by omega)]; exact hn j hj) (by have := unl_set hil hun'; omega)
            (h.step hd hst ho hun' hil hall (hfit i o ho) hw hv)
        unfold wpOp
        simp only [ho]
        split
        · rename_i hw
          rw [if_pos hw] at hq
          exact .inl (hq _ key)
        · rename_i hw
          rw [if_neg hw] at hq
          exact key undef w (Ex.refl w) hq
theorem wp_region_cut (c N : Nat) {id : Nat} {l : List Oper} (φ ψ : Nat → Value → World → Prop) (hm : P.follows .mixedOrders = true) (hN : l.toArray.size = N + 1) (hcN : c < N) (hb : backB l.toArray = true) (hl : lastB l.toArray c = true) (hl2 : lastB l.toArray N = true) (hlt : lateB l.toArray c = true) (hd : dstB l.toArray = true)
    (hst : ∀ i v w w', φ i v w → Ex w w' → φ i v w') (hst2 : ∀ i v w w', ψ i v w → Ex w w' → ψ i v w')
    (hfit : ∀ (i : Nat) (o : Oper), l.toArray[i]? = some o → ∀ t, o.dst = some t → t < a0.tmps.size)
    (H : ∀ i o, i < c → l.toArray[i]? = some o → Ask P l.toArray Q a0 w0.drew φ i o)
    (L : ∀ a w o, l.toArray[c]? = some o → Ex w0.drew w → a.defers = a0.defers → a.tmps.size = a0.tmps.size → (∀ i o, i < c → l.toArray[i]? = some o → ∃ v, φ i v w ∧ ∀ t, o.dst = some t → a.tmps.getD t undef = v) →
      (∀ t, (∀ i o, i < c → l.toArray[i]? = some o → o.dst ≠ some t) → a.tmps.getD t undef = a0.tmps.getD t undef) → wpOp P l.toArray Q c (Cut P l.toArray Q a0 c N φ ψ a w o) a w) :
    (Code.region id l.toArray true).wp P Q a0 w0 := by
  have hrep : ∀ i o, l.toArray[i]? = some o → (Array.replicate l.toArray.size false).getD i false = true → False := by
    intro i o hi hli
    have : i < l.toArray.size := (Array.getElem?_eq_some_iff.1 hi).1
    simp at this hli
    rw [Array.getElem?_replicate, if_pos (by simpa using this)] at hli
    cases hli
  refine wp_region_any hm ?_
  refine flow_cut (w0 := w0.drew) c N hN hcN hb hl hl2 hlt hd hst hst2 hfit H L _ _ _ _ (by simp [hN]) ?_ ?_ ⟨Ex.refl _, rfl, rfl, ?_, fun _ _ => rfl, ?_⟩
  · intro j _
    rw [Array.getD_eq_getD_getElem?, Array.getElem?_replicate]
    split <;> rfl
  · unfold unl
    refine Nat.le_trans List.countP_le_length ?_
    simp
  · intro i o hi hli
    exact (hrep i o hi hli).elim
  intro i o hi hli
  exact (hrep i o hi hli).elim
end
end Go.Proofs.Ytmjfnpmnhehnkaa
