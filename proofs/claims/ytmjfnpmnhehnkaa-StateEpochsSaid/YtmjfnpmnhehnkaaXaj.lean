/- FlX -/
import Derived.Test.YtmjfnpmnhehnkaaXae
namespace Go.Proofs.Ytmjfnpmnhehnkaa
open Go.RowKit
structure Sx where
 holds : Value → World → Prop
 stab : ∀ v w w', holds v w → Ex w w' → holds v w'
 fixed : Bool
 fix : fixed = true → ∀ v w w', holds v w → holds v w'
def Sx.is (x : Value) : Sx := ⟨fun v _ => v = x, fun _ _ _ h _ => h, true, fun _ _ _ _ h => h⟩
def Sx.any : Sx := ⟨fun _ _ => True, fun _ _ _ _ _ => trivial, true, fun _ _ _ _ _ => trivial⟩
def Sx.of (H : Value → World → Prop) (st : ∀ v w w', H v w → Ex w w' → H v w') : Sx := ⟨H, st, false, fun h => by cases h⟩
structure JE (base : World) (T : List Sx) (cons : List (Option Nat)) (prs : List (Nat × Nat)) (c1 c2 : Nat) (Fin : World → Prop) (listed : Array Bool) (f : Nat → Value) (w : World) : Prop where
 vals : ∀ i, listed.getD i false = true → (∀ c, cons.getD i none = some c → listed.getD c false = false) → (T.getD i .any).holds (f i) w
 pre : listed.getD c1 false = false → Ex base w
 fin : listed.getD c2 false = true → Fin w
 ord : ∀ x ∈ prs, listed.getD x.1 false = true → listed.getD x.2 false = true
section
variable {base : World} {T : List Sx} {cons : List (Option Nat)} {prs : List (Nat × Nat)} {c1 c2 : Nat} {Fin : World → Prop}
theorem JE.start (listed : Array Bool) (f : Nat → Value) (h0 : ∀ i, listed.getD i false = false) : JE base T cons prs c1 c2 Fin listed f base.drew :=
 ⟨fun i hi => absurd hi (by rw [h0 i]; decide), fun _ => (Below.refl base.heap.size base).drew, fun h => absurd h (by rw [h0 c2]; decide), fun x _ hx => absurd hx (by rw [h0 x.1]; decide)⟩
theorem JE.plain {listed : Array Bool} {f : Nat → Value} {w w' : World} (h : JE base T cons prs c1 c2 Fin listed f w) {i : Nat} (hi : i < listed.size) {v : Value} (hF : ∀ w w', Fin w → Ex w w' → Fin w') (h2 : i ≠ c2) (k : Ex w w') (hv : (T.getD i .any).holds v w') (ho : ∀ x ∈ prs, x.1 = i → listed.getD x.2 false = true) :
  JE base T cons prs c1 c2 Fin (listed.setIfInBounds i true) (upd f i v) w' := by
 have mono : ∀ c, listed.getD c false = true → (listed.setIfInBounds i true).getD c false = true := fun c hc => by
  by_cases e : i = c
  ·subst e; exact set_new hi
  ·rw [gset e false]; exact hc
 refine ⟨fun j hj hcj => ?_, fun hp => Ex.trans (h.pre (set_falseR hp)) k, fun hl => ?_, fun x hx h1 => ?_⟩
 ·by_cases e : j = i
  ·subst e; rw [upd_same]; exact hv
  rw [upd_ne _ _ e]
  have hj' : listed.getD j false = true := by
   rcases listed_set hj with rfl | hj
   ·exact absurd rfl e
   ·exact hj
  exact (T.getD j .any).stab _ _ _ (h.vals j hj' (fun c hcc => set_falseR (hcj c hcc))) k
 ·rw [gset h2 false] at hl
  exact hF _ _ (h.fin hl) k
 rcases listed_set h1 with e | h1
 ·exact mono _ (ho x hx e)
 exact mono _ (h.ord x hx h1)
theorem JE.mod {listed : Array Bool} {f : Nat → Value} {w w' : World} (h : JE base T cons prs c1 c2 Fin listed f w) {i : Nat} (hi : i < listed.size) {v : Value} {fx : List Bool} (hfx : T.map Sx.fixed = fx) (hv : (T.getD i .any).holds v w')
  (hc : ∀ j, j ≠ i → fx.getD j true = false → listed.getD j false = true → ∃ c, cons.getD j none = some c ∧ (c = i ∨ listed.getD c false = true))
  (hp : c1 = i ∨ listed.getD c1 false = true) (hf : (listed.setIfInBounds i true).getD c2 false = true → Fin w') (ho : ∀ x ∈ prs, x.1 = i → listed.getD x.2 false = true) :
  JE base T cons prs c1 c2 Fin (listed.setIfInBounds i true) (upd f i v) w' := by
 have new := set_new hi
 have mono : ∀ c, listed.getD c false = true → (listed.setIfInBounds i true).getD c false = true := fun c hc => by
  by_cases e : i = c
  ·subst e; exact new
  ·rw [gset e false]; exact hc
 refine ⟨fun j hj hcj => ?_, fun hp' => ?_, hf, fun x hx h1 => ?_⟩
 ·by_cases e : j = i
  ·subst e; rw [upd_same]; exact hv
  rw [upd_ne _ _ e]
  have hj' : listed.getD j false = true := by
   rcases listed_set hj with rfl | hj
   ·exact absurd rfl e
   ·exact hj
  have hold := h.vals j hj' (fun c hcc => set_falseR (hcj c hcc))
  cases hx : (T.getD j .any).fixed with
  | true => exact (T.getD j .any).fix hx _ _ _ hold
  | false =>
   have ht : fx.getD j true = false := by
    rw [← hfx, List.getD_eq_getElem?_getD, List.getElem?_map]
    rw [List.getD_eq_getElem?_getD] at hx
    cases hT : T[j]? with
    | none => rw [hT] at hx; exact absurd hx (by decide)
    | some s => rw [hT] at hx; exact hx
   obtain ⟨c, hcc, hci⟩ := hc j e ht hj'
   have := hcj c hcc
   rcases hci with rfl | hci
   ·rw [new] at this; cases this
   ·rw [mono c hci] at this; cases this
 ·rcases hp with rfl | hp
  ·rw [new] at hp'; cases hp'
  rw [mono _ hp] at hp'; cases hp'
 rcases listed_set h1 with e | h1
 ·exact mono _ (ho x hx e)
 exact mono _ (h.ord x hx h1)
end
end Go.Proofs.Ytmjfnpmnhehnkaa
