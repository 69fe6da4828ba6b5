/- MFlC -/
import Derived.Test.YtopamplmpfndlaaEaj
set_option maxRecDepth 100000
set_option maxHeartbeats 16000000
namespace Go.Proofs.Ytopamplmpfndlaa.Sm
open Go.RowKit
section
variable {P : Program} {ops : Array Oper} {Q : Exit → Act → World → Prop} {a0 : Act} {w0 : World} {φ : Nat → Value → World → Prop}
theorem any_one (M : Nat) (hM : ops.size = M + 1) (hb : backB ops = true) {listed : Array Bool} (hs : listed.size = M + 1) (hn : listed.getD M false = false) (hall : ∀ i, i < M → listed.getD i false = true) {a : Act} {w : World} (h : wpOp P ops Q M (Q .normal) a w) (f : Nat) : wpAny P .any ops Q (f + 1) listed a w := by
 refine ⟨fun h0 => ?_, fun i hi => ?_⟩
 ·obtain ⟨j, hj⟩ := least_ready hb (by omega) M (by omega) hn
  rw [h0] at hj; cases hj
 obtain ⟨hun, o, ho, _⟩ := mem_ready.1 hi
 have hlt : i < ops.size := (Array.getElem?_eq_some_iff.1 ho).1
 have hil : i < listed.size := by omega
 have hun' : listed.getD i false = false := by simpa [hil] using hun
 have hiM : i = M := by
  rcases Nat.lt_or_ge i M with hlt | hge
  ·rw [hall i hlt] at hun'; cases hun'
  ·omega
 subst hiM
 refine wpOp_mono (fun a' w' hq => any_end (fun j hj => ?_) hq f) h
 by_cases e : i = j
 ·subst e; simp [hil]
 have := hall j (by omega)
 have hjs : j < listed.size := by omega
 rw [gset e]
 simpa [hjs] using this
def nextB (ops : Array Oper) (N : Nat) : Bool := match ops[N + 1]? with
 | none => false
 | some o => o.after.toList.any fun e => Region.binds .any e && e.on == N
theorem flow_go2 (N : Nat) (hN : ops.size = N + 2) (hb : backB ops = true) (hl : lastB ops N = true) (hx : nextB ops N = true) (hd : dstB ops = true) (hst : ∀ i v w w', φ i v w → Ex w w' → φ i v w')
  (hfit : ∀ (i : Nat) (o : Oper), ops[i]? = some o → ∀ t, o.dst = some t → t < a0.tmps.size)
  (H : ∀ i o, i < N → ops[i]? = some o → Ask P ops Q a0 w0 φ i o)
  (L : ∀ a w, Ex w0 w → a.defers = a0.defers → a.tmps.size = a0.tmps.size → (∀ i o, i < N → ops[i]? = some o → ∃ v, φ i v w ∧ ∀ t, o.dst = some t → a.tmps.getD t undef = v) →
   (∀ t, (∀ i o, i < N → ops[i]? = some o → o.dst ≠ some t) → a.tmps.getD t undef = a0.tmps.getD t undef) → wpOp P ops Q N (fun a' w' => wpOp P ops Q (N + 1) (Q .normal) a' w') a w) :
  ∀ fuel listed a w, listed.size = N + 2 → listed.getD N false = false → listed.getD (N + 1) false = false → unl listed ≤ fuel → St ops a0 w0 φ listed a w → wpAny P .any ops Q fuel listed a w := by
 intro fuel
 induction fuel with
 | zero =>
  intro listed a w hs hn hn1 hu _
  have := unl_pos (i := N) (by omega) hn
  omega
 | succ f ih =>
  intro listed a w hs hn hn1 hu h
  refine ⟨fun h0 => ?_, fun i hi => ?_⟩
  ·obtain ⟨j, hj⟩ := least_ready hb (by omega) N (by omega) hn
   rw [h0] at hj; cases hj
  ·obtain ⟨hun, o, ho, hall⟩ := mem_ready.1 hi
   have hlt : i < ops.size := (Array.getElem?_eq_some_iff.1 ho).1
   have hil : i < listed.size := by omega
   have hun' : listed.getD i false = false := by simpa [hil] using hun
   have hiN1 : i ≠ N + 1 := by
    intro e
    subst e
    unfold nextB at hx
    simp only [ho, List.any_eq_true] at hx
    obtain ⟨ed, h4, h5⟩ := hx
    simp at h5
    have := hall ed (by simpa using h4) h5.1
    rw [h5.2, hn] at this; cases this
   by_cases hiN : i = N
   ·subst hiN
    have hdone : ∀ j, j < i → listed.getD j false = true := fun j hj => all_below hl ho hall h.closed i j hj (by omega)
    have hf : 0 < f := by
     have h1 := unl_set hil hun'
     have h2 := unl_pos (listed := listed.setIfInBounds i true) (i := i + 1) (by simp [hs]) (by rw [gset (by omega)]; exact hn1)
     omega
    obtain ⟨f', rfl⟩ : ∃ f', f = f' + 1 := ⟨f - 1, by omega⟩
    refine wpOp_mono (fun a' w' hq => any_one (i + 1) (by omega) hb (by simpa using hs) (by rw [gset (by omega)]; exact hn1) (fun j hj => ?_) hq f') (L a w h.ext h.defers h.size (fun j oj hj hoj => h.done j oj hoj (hdone j hj)) (fun t ht => h.rest t fun j oj hoj hjl => ?_))
    ·by_cases e : i = j
     ·subst e; simp [hil]
     ·have := hdone j (by omega)
      rw [gset e]
      exact this
    ·by_cases e : j = i
     ·subst e; rw [hun'] at hjl; cases hjl
     ·by_cases e2 : j = i + 1
      ·subst e2; rw [hn1] at hjl; cases hjl
      ·exact ht j oj (by have := (Array.getElem?_eq_some_iff.1 hoj).1; omega) hoj
   ·have hq := H i o (by omega) ho a w h.ext h.size (fun e he hbd oj hoj => h.done e.on oj hoj (hall e he hbd)) (fun t ht => h.rest t fun j oj hoj _ => ht j oj hoj)
    have key : ∀ v w', Ex w w' → φ i v w' → wpAny P .any ops Q f (listed.setIfInBounds i true) (a.put o.dst v) w' := fun v w' hw hv =>
     ih _ _ _ (by simpa using hs) (by rw [gset hiN]; exact hn) (by rw [gset hiN1]; exact hn1) (by have := unl_set hil hun'; omega)
      (h.step hd hst ho hun' hil hall (hfit i o ho) hw hv)
    unfold wpOp
    simp only [ho]
    split
    ·rename_i hw
     rw [if_pos hw] at hq
     exact .inl (hq _ key)
    ·rename_i hw
     rw [if_neg hw] at hq
     exact key undef w (Ex.refl w) hq
theorem wp_region_flow2 (N : Nat) {id : Nat} {l : List Oper} (φ : Nat → Value → World → Prop) (hm : P.follows .mixedOrders = true) (hN : l.toArray.size = N + 2) (hb : backB l.toArray = true) (hl : lastB l.toArray N = true) (hx : nextB l.toArray N = true) (hd : dstB l.toArray = true)
  (hst : ∀ i v w w', φ i v w → Ex w w' → φ i v w')
  (hfit : ∀ (i : Nat) (o : Oper), l.toArray[i]? = some o → ∀ t, o.dst = some t → t < a0.tmps.size)
  (H : ∀ i o, i < N → l.toArray[i]? = some o → Ask P l.toArray Q a0 w0.drew φ i o)
  (L : ∀ a w, Ex w0.drew w → a.defers = a0.defers → a.tmps.size = a0.tmps.size → (∀ i o, i < N → l.toArray[i]? = some o → ∃ v, φ i v w ∧ ∀ t, o.dst = some t → a.tmps.getD t undef = v) →
   (∀ t, (∀ i o, i < N → l.toArray[i]? = some o → o.dst ≠ some t) → a.tmps.getD t undef = a0.tmps.getD t undef) → wpOp P l.toArray Q N (fun a' w' => wpOp P l.toArray Q (N + 1) (Q .normal) a' w') a w) :
  (Code.region id l.toArray true).wp P Q a0 w0 := by
 have hrep : ∀ i o, l.toArray[i]? = some o → (Array.replicate l.toArray.size false).getD i false = true → False := by
  intro i o hi hli
  have : i < l.toArray.size := (Array.getElem?_eq_some_iff.1 hi).1
  simp at this hli
  rw [Array.getElem?_replicate, if_pos (by simpa using this)] at hli
  cases hli
 refine wp_region_any hm ?_
 refine flow_go2 (w0 := w0.drew) N hN hb hl hx hd hst hfit H L _ _ _ _ (by simp [hN]) ?_ ?_ ?_ ⟨Ex.refl _, rfl, rfl, ?_, fun _ _ => rfl, ?_⟩
 ·simp [hN]
 ·simp [hN]
 ·unfold unl
  refine Nat.le_trans List.countP_le_length ?_
  simp
 ·intro i o hi hli
  exact (hrep i o hi hli).elim
 intro i o hi hli
 exact (hrep i o hi hli).elim
theorem wpOp_do {N : Nat} {o : Oper} {K : Act → World → Prop} {a : Act} {w : World} (ho : ops[N]? = some o) (hw : Region.wanted o (yielded ops a.tmps) = true) (h : o.wp P a w K Q) : wpOp P ops Q N K a w := by
 unfold wpOp
 simp only [ho]
 rw [if_pos hw]
 exact .inl h
theorem wp_asg2 {o : Oper} {a : Act} {w : World} {K : Act → World → Prop} (x : Operand) (ho : o.op = .assign x) (h : K (a.put o.dst (a.eval x)) w) : o.wp P a w K Q := by
 unfold Oper.wp execOp
 simp only [ho]
 exact h
end
inductive As2 where
 | any
 | is (x : Value)
 | pt (l : List UInt8)
 | full (l : List UInt8)
 | own (B : Nat) (l : List UInt8)
 | blk (base : Nat) (t : TypeId) (cs : Array Value)
def As2.holds : As2 → Value → World → Prop
 | .any, _, _ => True
 | .is x, v, _ => v = x
 | .pt l, v, w => ∃ p : Pt, v = p.V ∧ p.l = l ∧ p.In w w.heap.size
 | .full l, v, w => ∃ p : Pt, v = p.V ∧ p.l = l ∧ p.cap = l.length ∧ p.In w w.heap.size
 | .own B l, v, w => ownU w B v l
 | .blk base t cs, v, w => ∃ g, v = .pointer (some ⟨g, 0, none⟩) ∧ base ≤ g ∧ Bk w g t cs
theorem As2.stable {s : As2} {v : Value} {w w' : World} (h : s.holds v w) (k : Ex w w') : s.holds v w' := by
 cases s with
 | any => exact h
 | is x => exact h
 | pt l =>
  obtain ⟨p, h1, h2, h3⟩ := h
  exact ⟨p, h1, h2, h3.ext k⟩
 | full l =>
  obtain ⟨p, h1, h2, h4, h3⟩ := h
  exact ⟨p, h1, h2, h4, h3.ext k⟩
 | own B l => exact own_under h k
 | blk base t cs =>
  obtain ⟨g, h1, h2, h3⟩ := h
  exact ⟨g, h1, h2, h3.ext k⟩
def tabPhi2 (T : List As2) (i : Nat) (v : Value) (w : World) : Prop := (T.getD i .any).holds v w
theorem tabPhi2_stable (T : List As2) (i : Nat) (v : Value) (w w' : World) (h : tabPhi2 T i v w) (k : Ex w w') : tabPhi2 T i v w' := As2.stable h k
end Go.Proofs.Ytopamplmpfndlaa.Sm
