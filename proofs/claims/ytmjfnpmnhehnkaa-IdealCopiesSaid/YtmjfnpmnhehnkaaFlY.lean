/- regions in which the world is turned more than once: values by predicates without a world, one predicate of what is listed, the values and the world -/
import Derived.Test.YtmjfnpmnhehnkaaFlX
namespace Go.Proofs.Ytmjfnpmnhehnkaa
open Go.RowKit
structure JS (T : List (Value → Prop)) (prs : List (Nat × Nat)) (St : Array Bool → (Nat → Value) → World → Prop) (listed : Array Bool) (f : Nat → Value) (w : World) : Prop where
  vals : ∀ i, listed.getD i false = true → (T.getD i (fun _ => True)) (f i)
  st : St listed f w
  ord : ∀ x ∈ prs, listed.getD x.1 false = true → listed.getD x.2 false = true
section
variable {T : List (Value → Prop)} {prs : List (Nat × Nat)} {St : Array Bool → (Nat → Value) → World → Prop}
theorem JS.start {w : World} (listed : Array Bool) (f : Nat → Value) (h0 : ∀ i, listed.getD i false = false) (hs : St listed f w) : JS T prs St listed f w :=
  ⟨fun i hi => absurd hi (by rw [h0 i]; decide), hs, fun x _ hx => absurd hx (by rw [h0 x.1]; decide)⟩
theorem JS.next {listed : Array Bool} {f : Nat → Value} {w w' : World} (h : JS T prs St listed f w) {i : Nat} (hi : i < listed.size) {v : Value} (hv : (T.getD i (fun _ => True)) v) (hs : St (listed.setIfInBounds i true) (upd f i v) w') (ho : ∀ x ∈ prs, x.1 = i → listed.getD x.2 false = true) :
    JS T prs St (listed.setIfInBounds i true) (upd f i v) w' := by
  have mono : ∀ c, listed.getD c false = true → (listed.setIfInBounds i true).getD c false = true := fun c hc => by
    by_cases e : i = c
    · subst e; exact set_new hi
    · rw [gset e false]; exact hc
  refine ⟨fun j hj => ?_, hs, fun x hx h1 => ?_⟩
  · by_cases e : j = i
    · subst e; rw [upd_same]; exact hv
    · rw [upd_ne _ _ e]
      refine h.vals j ?_
      rcases listed_set hj with rfl | hj
      · exact absurd rfl e
      · exact hj
  · rcases listed_set h1 with e | h1
    · exact mono _ (ho x hx e)
    · exact mono _ (h.ord x hx h1)
/-- what is listed at the end -/
theorem JS.last {listed : Array Bool} {f : Nat → Value} {w : World} (h : JS T prs St listed f w) {i : Nat} (hi : listed.getD i false = true) : (T.getD i (fun _ => True)) (f i) := h.vals i hi
end
end Go.Proofs.Ytmjfnpmnhehnkaa
