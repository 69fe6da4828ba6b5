/- A drawn region that takes two parts of two blocks into blocks of their own. -/
import Derived.Test.YtgkmfhhoifbbbaaDoorYk
namespace Go.Proofs.YtgkmfhhoifbbbaaDoor
open Go Go.RowKit
theorem set_new {listed : Array Bool} {i : Nat} (hi : i < listed.size) : (listed.setIfInBounds i true).getD i false = true := by
 rw [Array.getD_eq_getD_getElem?, Array.getElem?_setIfInBounds_self_of_lt hi]; rfl
structure JS (T : List (Value → Prop)) (prs : List (Nat × Nat)) (St : Array Bool → (Nat → Value) → World → Prop) (listed : Array Bool) (f : Nat → Value) (w : World) : Prop where
 vals : ∀ i, listed.getD i false = true → (T.getD i (fun _ => True)) (f i)
 st : St listed f w
 ord : ∀ x ∈ prs, listed.getD x.1 false = true → listed.getD x.2 false = true
section
variable {T : List (Value → Prop)} {prs : List (Nat × Nat)} {St : Array Bool → (Nat → Value) → World → Prop}
theorem JS.start {w : World} (listed : Array Bool) (f : Nat → Value) (h0 : ∀ i, listed.getD i false = false) (hs : St listed f w) : JS T prs St listed f w :=
 ⟨fun i hi => absurd hi (by rw [h0 i]; decide), hs, fun x _ hx => absurd hx (by rw [h0 x.1]; decide)⟩
theorem JS.next {listed : Array Bool} {f : Nat → Value} {w w' : World} (h : JS T prs St listed f w) {i : Nat} (hi : i < listed.size) {v : Value} (hv : (T.getD i (fun _ => True)) v) (hs : St (listed.setIfInBounds i true) (upd f i v) w') (ho : ∀ x ∈ prs, x.1 = i → listed.getD x.2 false = true) :
  JS T prs St (listed.setIfInBounds i true) (upd f i v) w' := by
 have mono : ∀ c, listed.getD c false = true → (listed.setIfInBounds i true).getD c false = true := fun c hc => by
  by_cases e : i = c
  ·subst e; exact set_new hi
  ·rw [gset e false]; exact hc
 refine ⟨fun j hj => ?_, hs, fun x hx h1 => ?_⟩
 ·by_cases e : j = i
  ·subst e; rw [upd_same]; exact hv
  ·rw [upd_ne _ _ e]
   refine h.vals j ?_
   rcases listed_set hj with rfl | hj
   ·exact absurd rfl e
   ·exact hj
 ·rcases listed_set h1 with e | h1
  ·exact mono _ (ho x hx e)
  ·exact mono _ (h.ord x hx h1)
/-- what a temporary is, by the value that is known of its operation -/
theorem JS.is {TT : List (Value → Prop)} {listed : Array Bool} {f : Nat → Value} {w : World} (h : JS T prs St listed f w) (hT : T = TT) {j : Nat} {ops : Array Oper} {tm : Array Value} (hd : listed.getD j false = true ∧ ∀ oj, ops[j]? = some oj → ∀ t, oj.dst = some t → tm.getD t undef = f j) {V : Value} (hV : TT.getD j (fun _ => True) = fun zz => zz = V) (oj : Oper) (ho : ops[j]? = some oj) (t : Tmp) (ht : oj.dst = some t) : tm.getD t undef = V := by
 have h1 := h.vals j hd.1
 rw [hT, hV] at h1
 rw [hd.2 oj ho t ht]; exact h1
theorem JS.iq {TT : List (Value → Prop)} {listed : Array Bool} {f : Nat → Value} {w : World} (h : JS T prs St listed f w) (hT : T = TT) {j : Nat} {ops : Array Oper} {tm : Array Value} (hd : listed.getD j false = true ∧ ∀ oj, ops[j]? = some oj → ∀ t, oj.dst = some t → tm.getD t undef = f j) {V : Value} (hV : TT.getD j (fun _ => True) = fun zz => zz = V) (oj : Oper) (ho : ops[j]? = some oj) (t : Tmp) (ht : oj.dst = some t) : tm[t]?.getD undef = V := by
 rw [← Array.getD_eq_getD_getElem?]; exact h.is hT hd hV oj ho t ht
/-- what is listed at the end -/
theorem JS.last {listed : Array Bool} {f : Nat → Value} {w : World} (h : JS T prs St listed f w) {i : Nat} (hi : listed.getD i false = true) : (T.getD i (fun _ => True)) (f i) := h.vals i hi
end
theorem set_cases {l : Array Bool} {i j : Nat} (h : (l.setIfInBounds i true).getD j false = true) : j = i ∨ l.getD j false = true := by
  by_cases e : i = j
  · exact .inl e.symm
  · rw [gset e] at h; exact .inr h
def SH (z0 W : World) (t : TypeId) (v : Value) (done : Bool) (I : List Value) : Prop := ∃ a, v = .pointer (some ⟨a, 0, none⟩) ∧ z0.heap.size ≤ a ∧ ∃ cs : List Value, cs.length = 65 ∧ Bk W a t cs.toArray ∧ (done = true → cs = I)
/-- operations 4 and 5 lay a block each, 6 and 7 fill them -/
structure SA (z0 : World) (I1 I2 : List Value) (t : TypeId) (l : Array Bool) (f : Nat → Value) (W : World) : Prop where
  bel : Below z0.heap.size z0 W
  one : l.getD 4 false = true → SH z0 W t (f 4) (l.getD 6 false) I1
  two : l.getD 5 false = true → SH z0 W t (f 5) (l.getD 7 false) I2
  ne : l.getD 4 false = true → l.getD 5 false = true → f 4 ≠ f 5
theorem SH.ext {z0 W W' : World} {t : TypeId} {v : Value} {d : Bool} {I : List Value} (h : SH z0 W t v d I) (k : Ex W W') : SH z0 W' t v d I := by
  obtain ⟨a, e, ha, cs, hc, hb, hd⟩ := h
  exact ⟨a, e, ha, cs, hc, hb.ext k, hd⟩
section
variable {z0 : World} {I1 I2 : List Value} {t : TypeId} {l : Array Bool} {f : Nat → Value} {W : World}
theorem SA.start (l : Array Bool) (f : Nat → Value) (h : ∀ i, l.getD i false = false) : SA z0 I1 I2 t l f z0.drew :=
  ⟨(Below.refl _ _).drew, fun e => absurd e (by rw [h]; decide), fun e => absurd e (by rw [h]; decide), fun e => absurd e (by rw [h]; decide)⟩
theorem SA.plain (h : SA z0 I1 I2 t l f W) {i : Nat} (hi : i < 4) (v : Value) : SA z0 I1 I2 t (l.setIfInBounds i true) (upd f i v) W := by
  have g : ∀ j, 4 ≤ j → (l.setIfInBounds i true).getD j false = l.getD j false := fun j hj => gset (by omega) _
  have u : ∀ j, 4 ≤ j → upd f i v j = f j := fun j hj => upd_ne _ _ (by omega)
  refine ⟨h.bel, ?_, ?_, ?_⟩
  · rw [g 4 (by omega), g 6 (by omega), u 4 (by omega)]; exact h.one
  · rw [g 5 (by omega), g 7 (by omega), u 5 (by omega)]; exact h.two
  · rw [g 4 (by omega), g 5 (by omega), u 4 (by omega), u 5 (by omega)]; exact h.ne
theorem SA.al4 (h : SA z0 I1 I2 t l f W) (hs : 4 < l.size) (h6 : l.getD 6 false = false) (cs : List Value) (hc : cs.length = 65) : SA z0 I1 I2 t (l.setIfInBounds 4 true) (upd f 4 (.pointer (some ⟨W.heap.size, 0, none⟩))) (W.alloc (.cells cs.toArray t)) := by
  have x := Ex.alloc W (.cells cs.toArray t)
  refine ⟨h.bel.trans (x.mono h.bel.size), fun _ => ?_, ?_, ?_⟩
  · rw [upd_same, gset (by decide), h6]
    exact ⟨_, rfl, h.bel.size, cs, hc, Bk.new rfl _ _, fun e => by cases e⟩
  · rw [gset (by decide), gset (by decide), upd_ne _ _ (by decide)]
    exact fun e => (h.two e).ext x
  · intro _ e
    rw [gset (by decide)] at e
    rw [upd_same, upd_ne _ _ (by decide)]
    obtain ⟨b, eb, _, _, _, hb, _⟩ := h.two e
    rw [eb]
    intro e2
    have hl := hb.lt
    simp only [Value.pointer.injEq, Option.some.injEq, Addr.mk.injEq] at e2
    omega
theorem SA.al5 (h : SA z0 I1 I2 t l f W) (hs : 5 < l.size) (h7 : l.getD 7 false = false) (cs : List Value) (hc : cs.length = 65) : SA z0 I1 I2 t (l.setIfInBounds 5 true) (upd f 5 (.pointer (some ⟨W.heap.size, 0, none⟩))) (W.alloc (.cells cs.toArray t)) := by
  have x := Ex.alloc W (.cells cs.toArray t)
  refine ⟨h.bel.trans (x.mono h.bel.size), ?_, fun _ => ?_, ?_⟩
  · rw [gset (by decide), gset (by decide), upd_ne _ _ (by decide)]
    exact fun e => (h.one e).ext x
  · rw [upd_same, gset (by decide), h7]
    exact ⟨_, rfl, h.bel.size, cs, hc, Bk.new rfl _ _, fun e => by cases e⟩
  · intro e _
    rw [gset (by decide)] at e
    rw [upd_same, upd_ne _ _ (by decide)]
    obtain ⟨b, eb, _, _, _, hb, _⟩ := h.one e
    rw [eb]
    intro e2
    have hl := hb.lt
    simp only [Value.pointer.injEq, Option.some.injEq, Addr.mk.injEq] at e2
    omega
theorem SA.st6 (h : SA z0 I1 I2 t l f W) (h1 : I1.length = 65) (h4 : l.getD 4 false = true) : ∃ a, f 4 = .pointer (some ⟨a, 0, none⟩) ∧ ∃ cs : List Value, cs.length = 65 ∧ Bk W a t cs.toArray ∧ ∀ v W', Bk W' a t I1.toArray → Only a W W' → SA z0 I1 I2 t (l.setIfInBounds 6 true) (upd f 6 v) W' := by
  obtain ⟨a, ea, ha, cs, hc, hb, _⟩ := h.one h4
  refine ⟨a, ea, cs, hc, hb, fun v W' hb' ho => ⟨ho.below _ ha _ h.bel, fun _ => ?_, ?_, ?_⟩⟩
  · rw [upd_ne _ _ (by decide), ea]
    exact ⟨a, rfl, ha, I1, h1, hb', fun _ => rfl⟩
  · rw [gset (by decide), gset (by decide), upd_ne _ _ (by decide)]
    intro e
    obtain ⟨b, eb, hz, cs2, hc2, hb2, hd2⟩ := h.two e
    refine ⟨b, eb, hz, cs2, hc2, ho.bk hb2 ?_, hd2⟩
    intro e2; subst e2; exact h.ne h4 e (by rw [ea, eb])
  · rw [gset (by decide), gset (by decide), upd_ne _ _ (by decide), upd_ne _ _ (by decide)]
    exact h.ne
theorem SA.st7 (h : SA z0 I1 I2 t l f W) (h1 : I2.length = 65) (h5 : l.getD 5 false = true) : ∃ a, f 5 = .pointer (some ⟨a, 0, none⟩) ∧ ∃ cs : List Value, cs.length = 65 ∧ Bk W a t cs.toArray ∧ ∀ v W', Bk W' a t I2.toArray → Only a W W' → SA z0 I1 I2 t (l.setIfInBounds 7 true) (upd f 7 v) W' := by
  obtain ⟨a, ea, ha, cs, hc, hb, _⟩ := h.two h5
  refine ⟨a, ea, cs, hc, hb, fun v W' hb' ho => ⟨ho.below _ ha _ h.bel, ?_, fun _ => ?_, ?_⟩⟩
  · rw [gset (by decide), gset (by decide), upd_ne _ _ (by decide)]
    intro e
    obtain ⟨b, eb, hz, cs2, hc2, hb2, hd2⟩ := h.one e
    refine ⟨b, eb, hz, cs2, hc2, ho.bk hb2 ?_, hd2⟩
    intro e2; subst e2; exact h.ne e h5 (by rw [ea, eb])
  · rw [upd_ne _ _ (by decide), ea]
    exact ⟨a, rfl, ha, I2, h1, hb', fun _ => rfl⟩
  · rw [gset (by decide), gset (by decide), upd_ne _ _ (by decide), upd_ne _ _ (by decide)]
    exact h.ne
theorem SA.fin (h : SA z0 I1 I2 t l f W) (h4 : l.getD 4 false = true) (h5 : l.getD 5 false = true) (h6 : l.getD 6 false = true) (h7 : l.getD 7 false = true) :
    ∃ a b, f 4 = .pointer (some ⟨a, 0, none⟩) ∧ f 5 = .pointer (some ⟨b, 0, none⟩) ∧ z0.heap.size ≤ a ∧ z0.heap.size ≤ b ∧ Bk W a t I1.toArray ∧ Bk W b t I2.toArray := by
  obtain ⟨a, ea, ha, cs, _, hb, hd⟩ := h.one h4
  obtain ⟨b, eb, hb', cs2, _, hb2, hd2⟩ := h.two h5
  rw [hd h6] at hb
  rw [hd2 h7] at hb2
  exact ⟨a, b, ea, eb, ha, hb', hb, hb2⟩
end
end Go.Proofs.YtgkmfhhoifbbbaaDoor
