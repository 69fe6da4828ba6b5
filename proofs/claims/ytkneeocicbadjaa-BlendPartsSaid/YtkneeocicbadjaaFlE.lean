/- A region that draws its order, with one operation that all before it come before, and all behind it behind -/
import Derived.Test.YtkneeocicbadjaaFlD
import Derived.Test.YtkneeocicbadjaaVeF
namespace Go.Proofs.Ytkneeocicbadjaa
open Go.RowKit
section
variable {P : Program} {ops : Array Oper} {Q : Exit → Act → World → Prop} {a0 : Act} {w0 : World} {φ : Nat → Value → World → Prop}
theorem Ex.undrew {w w' : World} (h : Ex w w') : Ex w.drew w' := ⟨h.os, h.tape, h.output, h.size, h.block⟩
theorem flow_goR (c N : Nat) (hN : ops.size = N + 1) (hb : backB ops = true) (hl : lastB ops N = true) (hd : dstB ops = true) (hst : ∀ i v w w', φ i v w → Ex w w' → φ i v w')
    (hfit : ∀ (i : Nat) (o : Oper), ops[i]? = some o → ∀ t, o.dst = some t → t < a0.tmps.size)
    (H : ∀ i o, c < i → i < N → ops[i]? = some o → Ask P ops Q a0 w0 φ i o)
    (L : ∀ a w, Ex w0 w → a.defers = a0.defers → a.tmps.size = a0.tmps.size → (∀ i o, i < N → ops[i]? = some o → ∃ v, φ i v w ∧ ∀ t, o.dst = some t → a.tmps.getD t undef = v) →
      (∀ t, (∀ i o, i < N → ops[i]? = some o → o.dst ≠ some t) → a.tmps.getD t undef = a0.tmps.getD t undef) → wpOp P ops Q N (Q .normal) a w) :
    ∀ fuel listed a w, listed.size = N + 1 → listed.getD N false = false → (∀ j, j ≤ c → listed.getD j false = true) → unl listed ≤ fuel → St ops a0 w0 φ listed a w → wpAny P .any ops Q fuel listed a w := by
  intro fuel
  induction fuel with
  | zero =>
    intro listed a w hs hn _ hu _
    have := unl_pos (i := N) (by omega) hn
    omega
  | succ f ih =>
    intro listed a w hs hn hc hu h
    refine ⟨fun h0 => ?_, fun i hi => ?_⟩
    · obtain ⟨j, hj⟩ := least_ready hb (by omega) N (by omega) hn
      rw [h0] at hj; cases hj
    · obtain ⟨hun, o, ho, hall⟩ := mem_ready.1 hi
      have hlt : i < ops.size := (Array.getElem?_eq_some_iff.1 ho).1
      have hil : i < listed.size := by omega
      have hun' : listed.getD i false = false := by simpa [hil] using hun
      have hci : c < i := by
        rcases Nat.lt_or_ge c i with hx | hx
        · exact hx
        · rw [hc i hx] at hun'; cases hun'
      by_cases hiN : i = N
      · subst hiN
        have hdone : ∀ j, j < i → listed.getD j false = true := fun j hj => all_below hl ho hall h.closed i j hj (by omega)
        refine wpOp_mono (fun a' w' hq => any_end (fun j hj => ?_) hq f) (L a w h.ext h.defers h.size (fun j oj hj hoj => h.done j oj hoj (hdone j hj)) (fun t ht => h.rest t fun j oj hoj hjl => ?_))
        · by_cases e : i = j
          · subst e; simp [hil]
          · have := hdone j (by omega)
            have hjs : j < listed.size := by omega
            rw [gset e]
            simpa [hjs] using this
        · by_cases e : j = i
          · subst e; rw [hun'] at hjl; cases hjl
          · exact ht j oj (by have := (Array.getElem?_eq_some_iff.1 hoj).1; omega) hoj
      · have hq := H i o hci (by omega) ho a w h.ext h.size (fun e he hbd oj hoj => h.done e.on oj hoj (hall e he hbd)) (fun t ht => h.rest t fun j oj hoj _ => ht j oj hoj)
        have key : ∀ v w', Ex w w' → φ i v w' → wpAny P .any ops Q f (listed.setIfInBounds i true) (a.put o.dst v) w' := fun v w' hw hv =>
          ih _ _ _ (by simpa using hs) (by rw [gset hiN]; exact hn) (fun j hj => by rw [gset (by omega)]; exact hc j hj) (by have := unl_set hil hun'; omega)
            (h.step hd hst ho hun' hil hall (hfit i o ho) hw hv)
        unfold wpOp
        simp only [ho]
        split
        · rename_i hw
          rw [if_pos hw] at hq
          exact .inl (hq _ key)
        · rename_i hw
          rw [if_neg hw] at hq
          exact key undef w (Ex.refl w) hq
def lateB (ops : Array Oper) (c : Nat) : Bool := (List.range ops.size).all fun i => decide (i ≤ c) || match ops[i]? with
  | none => false
  | some o => o.after.toList.any fun e => Region.binds .any e && decide (c ≤ e.on)
theorem lateB_spec {c : Nat} (h : lateB ops c = true) {i : Nat} {o : Oper} (hi : ops[i]? = some o) (hc : c < i) : ∃ e, e ∈ o.after ∧ Region.binds .any e = true ∧ c ≤ e.on := by
  unfold lateB at h
  rw [List.all_eq_true] at h
  have h1 := h i (by rw [List.mem_range]; exact (Array.getElem?_eq_some_iff.1 hi).1)
  rw [Bool.or_eq_true] at h1
  rcases h1 with h1 | h1
  · have : i ≤ c := by simpa using h1
    omega
  · rw [hi] at h1
    simp only [List.any_eq_true] at h1
    obtain ⟨e, h4, h5⟩ := h1
    simp at h5
    exact ⟨e, by simpa using h4, h5.1, h5.2⟩
/-- what is asked of the operation between -/
def Cut (P : Program) (ops : Array Oper) (Q : Exit → Act → World → Prop) (a0 : Act) (c N : Nat) (φ ψ : Nat → Value → World → Prop) (a : Act) (w : World) (o : Oper) (a' : Act) (w' : World) : Prop :=
  ∃ v, a' = a.put o.dst v ∧ ψ c v w' ∧ (∀ i u, i < c → φ i u w → ψ i u w') ∧ (∀ i o, c < i → i < N → ops[i]? = some o → Ask P ops Q a0 w'.drew ψ i o) ∧
    (∀ a w, Ex w'.drew w → a.defers = a0.defers → a.tmps.size = a0.tmps.size → (∀ i o, i < N → ops[i]? = some o → ∃ v, ψ i v w ∧ ∀ t, o.dst = some t → a.tmps.getD t undef = v) →
      (∀ t, (∀ i o, i < N → ops[i]? = some o → o.dst ≠ some t) → a.tmps.getD t undef = a0.tmps.getD t undef) → wpOp P ops Q N (Q .normal) a w)
theorem flow_cut (c N : Nat) {ψ : Nat → Value → World → Prop} (hN : ops.size = N + 1) (hcN : c < N) (hb : backB ops = true) (hl : lastB ops c = true) (hl2 : lastB ops N = true) (hlt : lateB ops c = true) (hd : dstB ops = true) (hst : ∀ i v w w', φ i v w → Ex w w' → φ i v w') (hst2 : ∀ i v w w', ψ i v w → Ex w w' → ψ i v w')
    (hfit : ∀ (i : Nat) (o : Oper), ops[i]? = some o → ∀ t, o.dst = some t → t < a0.tmps.size)
    (H : ∀ i o, i < c → ops[i]? = some o → Ask P ops Q a0 w0 φ i o)
    (L : ∀ a w o, ops[c]? = some o → Ex w0 w → a.defers = a0.defers → a.tmps.size = a0.tmps.size → (∀ i o, i < c → ops[i]? = some o → ∃ v, φ i v w ∧ ∀ t, o.dst = some t → a.tmps.getD t undef = v) →
      (∀ t, (∀ i o, i < c → ops[i]? = some o → o.dst ≠ some t) → a.tmps.getD t undef = a0.tmps.getD t undef) → wpOp P ops Q c (Cut P ops Q a0 c N φ ψ a w o) a w) :
    ∀ fuel listed a w, listed.size = N + 1 → (∀ j, c ≤ j → listed.getD j false = false) → unl listed ≤ fuel → St ops a0 w0 φ listed a w → wpAny P .any ops Q fuel listed a w := by
  intro fuel
  induction fuel with
  | zero =>
    intro listed a w hs hn hu _
    have := unl_pos (i := c) (by omega) (hn c (Nat.le_refl _))
    omega
  | succ f ih =>
    intro listed a w hs hn hu h
    refine ⟨fun h0 => ?_, fun i hi => ?_⟩
    · obtain ⟨j, hj⟩ := least_ready hb (by omega) c (by omega) (hn c (Nat.le_refl _))
      rw [h0] at hj; cases hj
    · obtain ⟨hun, o, ho, hall⟩ := mem_ready.1 hi
      have hlt' : i < ops.size := (Array.getElem?_eq_some_iff.1 ho).1
      have hil : i < listed.size := by omega
      have hun' : listed.getD i false = false := by simpa [hil] using hun
      have hic : i ≤ c := by
        rcases Nat.lt_or_ge c i with hx | hx
        · obtain ⟨e, he, hbd, hon⟩ := lateB_spec hlt ho hx
          have := hall e he hbd
          rw [hn e.on hon] at this; cases this
        · exact hx
      by_cases hiN : i = c
      · subst hiN
        have hdone : ∀ j, j < i → listed.getD j false = true := fun j hj => all_below hl ho hall h.closed i j hj (by omega)
        refine wpOp_mono (fun a' w' hq => ?_) (L a w o ho h.ext h.defers h.size (fun j oj hj hoj => h.done j oj hoj (hdone j hj)) (fun t ht => h.rest t fun j oj hoj hjl => ?_))
        · obtain ⟨v, rfl, hv, htr, H2, L2⟩ := hq
          have hset : ∀ j, j ≤ i → (listed.setIfInBounds i true).getD j false = true := by
            intro j hj
            by_cases e : i = j
            · subst e; simp [hil]
            · rw [gset e]; exact hdone j (by omega)
          have hset2 : ∀ j, i < j → (listed.setIfInBounds i true).getD j false = false := by
            intro j hj
            rw [gset (by omega)]; exact hn j (by omega)
          refine flow_goR (w0 := w'.drew) i N hN hb hl2 hd hst2 hfit H2 L2 f _ _ _ (by simpa using hs) (hset2 N hcN) hset (by have := unl_set hil hun'; omega) ⟨(Ex.refl w').undrew, ?_, ?_, ?_, ?_, ?_⟩
          · cases o.dst <;> exact h.defers
          · cases o.dst with
            | none => exact h.size
            | some d => simpa [Act.put] using h.size
          · intro j oj hj hjl
            by_cases e : i = j
            · subst e
              rw [ho] at hj; cases hj
              refine ⟨v, hv, fun t ht => ?_⟩
              have := hfit i o ho t ht
              rw [ht]
              simp [Act.put, h.size, this]
            · have hji : j < i := by
                rcases Nat.lt_or_ge i j with hx | hx
                · rw [hset2 j hx] at hjl; cases hjl
                · omega
              obtain ⟨u, hu1, hu2⟩ := h.done j oj hj (hdone j hji)
              refine ⟨u, htr j u hji hu1, fun t ht => ?_⟩
              rw [getD_put _ _ _ _ (dstB_ne hd (Ne.symm e) hj ho ht)]
              exact hu2 t ht
          · intro t ht
            rw [getD_put _ _ _ _ (ht i o ho (hset i (Nat.le_refl _)))]
            refine h.rest t fun j oj hj hjl => ?_
            rcases Nat.lt_or_ge i j with hx | hx
            · rw [hn j (by omega)] at hjl; cases hjl
            · exact ht j oj hj (hset j hx)
          · intro j oj hj hjl e he hbd
            have h1 := backB_spec hb hj he hbd
            have hji : j ≤ i := by
              rcases Nat.lt_or_ge i j with hx | hx
              · rw [hset2 j hx] at hjl; cases hjl
              · exact hx
            exact hset e.on (by omega)
        · rcases Nat.lt_or_ge j i with hx | hx
          · exact ht j oj hx hoj
          · rw [hn j hx] at hjl; cases hjl
      · have hq := H i o (by omega) ho a w h.ext h.size (fun e he hbd oj hoj => h.done e.on oj hoj (hall e he hbd)) (fun t ht => h.rest t fun j oj hoj _ => ht j oj hoj)
        have key : ∀ v w', Ex w w' → φ i v w' → wpAny P .any ops Q f (listed.setIfInBounds i true) (a.put o.dst v) w' := fun v w' hw hv =>
          ih _ _ _ (by simpa using hs) (fun j hj => by rw [gset (by omega)]; exact hn j hj) (by have := unl_set hil hun'; omega)
            (h.step hd hst ho hun' hil hall (hfit i o ho) hw hv)
        unfold wpOp
        simp only [ho]
        split
        · rename_i hw
          rw [if_pos hw] at hq
          exact .inl (hq _ key)
        · rename_i hw
          rw [if_neg hw] at hq
          exact key undef w (Ex.refl w) hq
theorem wp_region_cut (c N : Nat) {id : Nat} {l : List Oper} (φ ψ : Nat → Value → World → Prop) (hm : P.follows .mixedOrders = true) (hN : l.toArray.size = N + 1) (hcN : c < N) (hb : backB l.toArray = true) (hl : lastB l.toArray c = true) (hl2 : lastB l.toArray N = true) (hlt : lateB l.toArray c = true) (hd : dstB l.toArray = true)
    (hst : ∀ i v w w', φ i v w → Ex w w' → φ i v w') (hst2 : ∀ i v w w', ψ i v w → Ex w w' → ψ i v w')
    (hfit : ∀ (i : Nat) (o : Oper), l.toArray[i]? = some o → ∀ t, o.dst = some t → t < a0.tmps.size)
    (H : ∀ i o, i < c → l.toArray[i]? = some o → Ask P l.toArray Q a0 w0.drew φ i o)
    (L : ∀ a w o, l.toArray[c]? = some o → Ex w0.drew w → a.defers = a0.defers → a.tmps.size = a0.tmps.size → (∀ i o, i < c → l.toArray[i]? = some o → ∃ v, φ i v w ∧ ∀ t, o.dst = some t → a.tmps.getD t undef = v) →
      (∀ t, (∀ i o, i < c → l.toArray[i]? = some o → o.dst ≠ some t) → a.tmps.getD t undef = a0.tmps.getD t undef) → wpOp P l.toArray Q c (Cut P l.toArray Q a0 c N φ ψ a w o) a w) :
    (Code.region id l.toArray true).wp P Q a0 w0 := by
  have hrep : ∀ i o, l.toArray[i]? = some o → (Array.replicate l.toArray.size false).getD i false = true → False := by
    intro i o hi hli
    have : i < l.toArray.size := (Array.getElem?_eq_some_iff.1 hi).1
    simp at this hli
    rw [Array.getElem?_replicate, if_pos (by simpa using this)] at hli
    cases hli
  refine wp_region_any hm ?_
  refine flow_cut (w0 := w0.drew) c N hN hcN hb hl hl2 hlt hd hst hst2 hfit H L _ _ _ _ (by simp [hN]) ?_ ?_ ⟨Ex.refl _, rfl, rfl, ?_, fun _ _ => rfl, ?_⟩
  · intro j _
    rw [Array.getD_eq_getD_getElem?, Array.getElem?_replicate]
    split <;> rfl
  · unfold unl
    refine Nat.le_trans List.countP_le_length ?_
    simp
  · intro i o hi hli
    exact (hrep i o hi hli).elim
  · intro i o hi hli
    exact (hrep i o hi hli).elim
end
inductive As4 where
  | any
  | is (x : Value)
  | pt (l : List UInt8)
  | own (B : Nat) (l : List UInt8)
  | emp (B : Nat)
  | blk (base : Nat) (t : TypeId) (cs : Array Value)
def As4.holds : As4 → Value → World → Prop
  | .any, _, _ => True
  | .is x, v, _ => v = x
  | .pt l, v, w => ∃ p : Pt, v = p.V ∧ p.l = l ∧ p.In w w.heap.size
  | .own B l, v, w => ownU w B v l
  | .emp B, v, w => ∃ g, v = .slice (some ⟨g, 0, none⟩) 0 0 ∧ B ≤ g ∧ Bk w g 5 #[]
  | .blk base t cs, v, w => ∃ g, v = .pointer (some ⟨g, 0, none⟩) ∧ base ≤ g ∧ Bk w g t cs
theorem As4.stable {s : As4} {v : Value} {w w' : World} (h : s.holds v w) (k : Ex w w') : s.holds v w' := by
  cases s with
  | any => exact h
  | is x => exact h
  | pt l =>
    obtain ⟨p, h1, h2, h3⟩ := h
    exact ⟨p, h1, h2, h3.ext k⟩
  | own B l => exact own_under h k
  | emp B =>
    obtain ⟨g, h1, h2, h3⟩ := h
    exact ⟨g, h1, h2, h3.ext k⟩
  | blk base t cs =>
    obtain ⟨g, h1, h2, h3⟩ := h
    exact ⟨g, h1, h2, h3.ext k⟩
def tabPhi4 (T : List As4) (i : Nat) (v : Value) (w : World) : Prop := (T.getD i .any).holds v w
theorem tabPhi4_stable (T : List As4) (i : Nat) (v : Value) (w w' : World) (h : tabPhi4 T i v w) (k : Ex w w') : tabPhi4 T i v w' := As4.stable h k
theorem wp_app_emp {o : Oper} {a : Act} {w : World} {K : Act → World → Prop} {Q : Exit → Act → World → Prop} (s x : Operand)
    (hop : o.op = .call { callee := .builtin .append, args := #[s, x], argTypes := #[22, 22] }) (B g : Nat) (q : Pt) (hs : a.eval s = .slice (some ⟨g, 0, none⟩) 0 0) (hx : a.eval x = q.V)
    (hB : B ≤ g) (hb : Bk w g 5 #[]) (hBw : B ≤ w.heap.size) (hq : q.In w w.heap.size) (hN : q.l.length ≤ 100000000000000)
    (h : ∀ v' w', ownU w' B v' q.l → Ex w w' → K (a.put o.dst v') w') : o.wp Try.prog a w K Q := by
  obtain ⟨i0, hi0, hz0, hz1, hz2⟩ := info_parts sm_u8
  have key : ∃ v' w', (Builtin.append_ #[22, 22] o.type #[.slice (some ⟨g, 0, none⟩) 0 0, q.V]).run Try.prog w = .ok v' w' ∧ ownU w' B v' q.l ∧ Ex w w' := by
    have ow : ownU w B (.slice (some ⟨g, 0, none⟩) 0 0) [] := ⟨rfl, .inr ⟨g, 0, #[], rfl, hB, hb, Nat.le_refl _, Nat.zero_le _, rfl, rfl⟩⟩
    by_cases hq0 : 0 < q.l.length
    · obtain ⟨aq, hqa, hqc⟩ := hq.cells hq0
      unfold Pt.V
      rw [hqa]
      obtain ⟨v', w', hrun, r1, r2⟩ := run_append_arg_grows (P := Try.prog) w 22 o.type 5 i0 _ 1 1 Try.underlying22 hi0 hz0 hz1 hz2 rfl (by omega) ⟨g, 0, none⟩ 0 0 [] (by simp) (fun j u hu => by simp at hu) aq q.l.length q.cap (Lib.byteCells q.l) (by simp [Lib.byteCells]) hqc (by omega) (by unfold maxLen; omega) (by omega)
      refine ⟨v', w', hrun, ?_, (Below.refl _ _).grown r2 (Nat.le_refl _) (fun k hk => by cases hk)⟩
      have r1 : ownU w' w.heap.size v' q.l := by
        unfold ownU
        simpa using r1
      exact own_less r1 hBw
    · have hz : q.l = [] := List.eq_nil_of_length_eq_zero (by omega)
      refine ⟨.slice (some ⟨g, 0, none⟩) 0 0, w, ?_, by rw [hz]; exact ow, Ex.refl _⟩
      unfold Pt.V
      rw [hz]
      cases hqa : q.ad with
      | none =>
        rw [hq.nil hqa]
        exact run_append_owned_none w B 22 o.type 5 i0 1 Try.underlying22 hi0 _ _ _ ow
      | some aq => simp [Builtin.append_, run_underlying Try.underlying22, sizeOf, typeInfo, hi0, Builtin.lenOf, Builtin.firstCells, storeCells, loadCells, loadCellsFrom]
  obtain ⟨v', w', hrun, r1, r2⟩ := key
  unfold Oper.wp
  simp [execOp, hop, resolve, invoke, builtin, hs, hx, hrun, Result.andThen]
  exact h v' w' r1 r2
end Go.Proofs.Ytkneeocicbadjaa
