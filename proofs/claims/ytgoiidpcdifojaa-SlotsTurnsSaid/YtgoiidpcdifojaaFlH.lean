/- A region that draws its order: each operation's value is known but for one new block, into which one store goes. -/
import Derived.Test.YtgoiidpcdifojaaFlG
import Derived.Test.YtgoiidpcdifojaaRoE
namespace Go.Proofs.Ytgoiidpcdifojaa
open Go.RowKit
theorem not_wanted_x {ops : Array Oper} {o oj : Oper} {a : Act} {j : Nat} {b : Bool} {t : Tmp} {x : Value} (hgd : o.guard = some (j, b)) (hj : ops[j]? = some oj) (ht : oj.dst = some t) (hv : a.tmps.getD t undef = x) (hne : x ≠ .bool b) : ¬ Region.wanted o (yielded ops a.tmps) = true := by
  rw [Array.getD_eq_getD_getElem?] at hv
  unfold Region.wanted yielded
  cases h : a.tmps[t]? with
  | none => simp [hgd, hj, ht, h]
  | some y =>
    rw [h] at hv
    obtain rfl : y = x := hv
    simp only [hgd, hj, ht, h, Option.bind]
    cases y <;> simp
    rename_i c
    intro e; exact hne (by rw [e])
structure JL (base : World) (T : List (Option Value)) (ia is : Nat) (t : TypeId) (c0 c1 : Array Value) (listed : Array Bool) (f : Nat → Value) (w : World) : Prop where
  ext : Ex base w
  vals : ∀ (i : Nat), listed.getD i false = true → ∀ x, T.getD i none = some x → f i = x
  ord : listed.getD is false = true → listed.getD ia false = true
  loc : listed.getD ia false = true → ∃ g, f ia = .pointer (some ⟨g, 0, none⟩) ∧ base.heap.size ≤ g ∧ Bk w g t (if listed.getD is false = true then c1 else c0)
section
variable {base : World} {T : List (Option Value)} {ia is : Nat} {t : TypeId} {c0 c1 : Array Value} {listed : Array Bool} {f : Nat → Value} {w w' : World} {i : Nat} {v : Value}
theorem JL.start (w : World) (listed : Array Bool) (f : Nat → Value) (h : ∀ i, listed.getD i false = false) : JL w T ia is t c0 c1 listed f w.drew :=
  ⟨(Below.refl _ _).drew, fun i hi => absurd hi (by rw [h i]; decide), fun hi => absurd hi (by rw [h is]; decide), fun hi => absurd hi (by rw [h ia]; decide)⟩
theorem JL.up (h : JL base T ia is t c0 c1 listed f w) (hv : ∀ x, T.getD i none = some x → v = x) : ∀ (j : Nat), (listed.setIfInBounds i true).getD j false = true → ∀ x, T.getD j none = some x → upd f i v j = x := fun j hj x hx => by
  by_cases e : j = i
  · subst e; rw [upd_same]; exact hv x hx
  · rw [upd_ne _ _ e]
    rcases listed_set hj with rfl | hj
    · exact absurd rfl e
    · exact h.vals j hj x hx
theorem JL.plain (h : JL base T ia is t c0 c1 listed f w) (h1 : i ≠ ia) (h2 : i ≠ is) (hx : Ex w w') (hv : ∀ x, T.getD i none = some x → v = x) : JL base T ia is t c0 c1 (listed.setIfInBounds i true) (upd f i v) w' := by
  refine ⟨Ex.trans h.ext hx, h.up hv, ?_, ?_⟩
  · rw [bit_set h2, bit_set h1]; exact h.ord
  · rw [bit_set h2, bit_set h1, upd_ne _ _ (Ne.symm h1)]
    intro hl
    obtain ⟨g, h3, h4, h5⟩ := h.loc hl
    exact ⟨g, h3, h4, h5.ext hx⟩
theorem JL.alloc (h : JL base T ia is t c0 c1 listed f w) (hne : ia ≠ is) (hn : listed.getD ia false = false) (hv : T.getD ia none = none) : JL base T ia is t c0 c1 (listed.setIfInBounds ia true) (upd f ia (.pointer (some ⟨w.heap.size, 0, none⟩))) (w.alloc (.cells c0 t)) := by
  have hx : Ex w (w.alloc (.cells c0 t)) := (Below.refl _ _).alloc (Nat.le_refl _) _
  have hs : listed.getD is false = false := by
    cases e : listed.getD is false with
    | false => rfl
    | true => have := h.ord e; rw [hn] at this; cases this
  refine ⟨Ex.trans h.ext hx, h.up (fun x hx => by rw [hv] at hx; cases hx), ?_, ?_⟩
  · rw [bit_set hne, hs]; intro h; cases h
  · rw [bit_set hne, hs, upd_same]
    intro _
    exact ⟨_, rfl, h.ext.size, Bk.new rfl _ _⟩
theorem JL.store (h : JL base T ia is t c0 c1 listed f w) (hne : ia ≠ is) (hl : listed.getD ia false = true) (hb : is < listed.size) (hv : T.getD is none = none) {g : Nat} (hg : f ia = .pointer (some ⟨g, 0, none⟩)) (hgb : base.heap.size ≤ g) (hB : Bk w' g t c1) (ho : Only g w w') :
    JL base T ia is t c0 c1 (listed.setIfInBounds is true) (upd f is v) w' := by
  refine ⟨ho.below _ hgb _ h.ext, h.up (fun x hx => by rw [hv] at hx; cases hx), ?_, ?_⟩
  · rw [bit_set (Ne.symm hne)]; intro _; exact hl
  · rw [bit_set (Ne.symm hne), bit_new hb, upd_ne _ _ hne]
    intro _
    exact ⟨g, hg, hgb, hB⟩
end
end Go.Proofs.Ytgoiidpcdifojaa
