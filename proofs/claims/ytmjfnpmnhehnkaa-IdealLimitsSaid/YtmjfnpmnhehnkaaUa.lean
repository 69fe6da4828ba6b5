/- tables beside one another -/
import Derived.Test.YtmjfnpmnhehnkaaTh
namespace Go.Proofs.Ytmjfnpmnhehnkaa
open Go.RowKit
/-- blocks of rows are not one -/
def Djn (v v' : Value) : Prop := ∀ g, v.ownBlock = some g → v'.ownBlock ≠ some g
theorem Djn.symm {v v' : Value} (h : Djn v v') : Djn v' v := fun g h1 h2 => h g h2 h1
theorem TB.D_ne {w : World} {D gb : Nat} {rv : Value} {vs : List Vt} {cs : Array Value} (h : TB w D rv vs) (hb : Bk w gb 36 cs) : D ≠ gb := fun e => by
  subst e
  have h1 := h.blk
  unfold Bk at h1 hb
  rw [h1] at hb; cases hb
theorem TB.other {w w' : World} {D D' : Nat} {rv rv' : Value} {vs vs' : List Vt} (h : TB w D rv vs) (h' : TB w D' rv' vs') (k : Tc D' rv'.ownBlock w w') (hd : D ≠ D') (hr : Djn rv rv') : TB w' D rv vs := by
  have hrow := h'.row.blk
  have keep : ∀ x, TVN w x → TVN w' x := fun x hx => by
    rcases hrow with e | ⟨gb, e, _, _, hb⟩
    · exact hx.tc (gb := 0) k h'.blk (Or.inl e)
    · exact hx.tc k h'.blk (Or.inr ⟨e, hb⟩)
  refine ⟨k.bk h.blk hd (fun e => ?_), ⟨⟨h.row.row.1, h.row.row.2.imp id fun ⟨g, cap, cur, hv, hB, hg, hrest⟩ => ⟨g, cap, cur, hv, hB, ?_, hrest⟩⟩, fun i x hx => keep x (h.row.ins i x hx)⟩, h.len, h.srt⟩
  · rcases hrow with e2 | ⟨gb, e2, _, _, cs, hb⟩
    · rw [e2] at e; cases e
    · rw [e2] at e; cases e
      exact h.D_ne hb rfl
  · exact (show Bk w' g 36 cur from k.bk hg (fun e => by subst e; exact h'.D_ne hg rfl) (fun e => hr g (by rw [hv]; rfl) e.symm))
/-- n tables, each with blocks of its own -/
structure TS (w : World) (B n : Nat) (D : Nat → Nat) (r : Nat → Value) (v : Nat → List Vt) : Prop where
  tb : ∀ i, i < n → TB w (D i) (r i) (v i)
  lo : ∀ i, i < n → B ≤ D i
  dd : ∀ i j, i < n → j < n → i ≠ j → D i ≠ D j
  rr : ∀ i j, i < n → j < n → i ≠ j → Djn (r i) (r j)
theorem TS.ext {w w' : World} {B n : Nat} {D : Nat → Nat} {r : Nat → Value} {v : Nat → List Vt} (h : TS w B n D r v) (k : Ex w w') : TS w' B n D r v := ⟨fun i hi => (h.tb i hi).ext k, h.lo, h.dd, h.rr⟩
def updF {α : Type} (f : Nat → α) (k : Nat) (x : α) : Nat → α := fun i => if i = k then x else f i
theorem updF_same {α : Type} (f : Nat → α) (k : Nat) (x : α) : updF f k x k = x := if_pos rfl
theorem updF_ne {α : Type} (f : Nat → α) {k i : Nat} (x : α) (h : i ≠ k) : updF f k x i = f i := if_neg h
/-- one table is turned, the others stay -/
theorem TS.turn {w w' : World} {B n k : Nat} {D : Nat → Nat} {r : Nat → Value} {v : Nat → List Vt} {rv' : Value} {vs' : List Vt} (h : TS w B n D r v) (hk : k < n) (ht : TB w' (D k) rv' vs') (htc : Tc (D k) (r k).ownBlock w w') (hl : Lies w (r k) rv') :
    TS w' B n D (updF r k rv') (updF v k vs') := by
  refine ⟨fun i hi => ?_, h.lo, h.dd, fun i j hi hj hij => ?_⟩
  · by_cases e : i = k
    · subst e; rw [updF_same, updF_same]; exact ht
    · rw [updF_ne _ _ e, updF_ne _ _ e]
      exact (h.tb i hi).other (h.tb k hk) htc (h.dd i k hi hk e) (h.rr i k hi hk e)
  · have fresh : ∀ i, i < n → i ≠ k → Djn (r i) rv' := fun i hi e g hg he => by
      rcases hl with h1 | h1
      · exact h.rr i k hi hk e g hg (h1 ▸ he)
      · have h2 := h1 g he
        have h3 := (h.tb i hi).row.row.lt g hg
        omega
    by_cases e : i = k
    · subst e
      rw [updF_same, updF_ne _ _ (fun e => hij e.symm)]
      exact (fresh j hj (fun e => hij e.symm)).symm
    · rw [updF_ne _ _ e]
      by_cases e2 : j = k
      · subst e2; rw [updF_same]; exact fresh i hi e
      · rw [updF_ne _ _ e2]; exact h.rr i j hi hj hij
theorem Md.tc {w w' : World} {D : Nat} {r : Option Nat} (h : Md D w w') : Tc D r w w' := by
  have hb := h.below 0 (Nat.zero_le _) w (Below.refl 0 w)
  exact ⟨hb.os, hb.tape, hb.output, h.size, fun k hk h1 _ => h.other k h1 hk⟩
/-- the table's row is made anew -/
theorem TS.fill {w w' : World} {B n k : Nat} {D : Nat → Nat} {r : Nat → Value} {v : Nat → List Vt} {rv' : Value} {vs' : List Vt} (h : TS w B n D r v) (hk : k < n) (ht : TB w' (D k) rv' vs') (hm : Md (D k) w w') (hf : ∀ g, rv'.ownBlock = some g → w.heap.size ≤ g) :
    TS w' B n D (updF r k rv') (updF v k vs') := h.turn hk ht hm.tc (Or.inr hf)
end Go.Proofs.Ytmjfnpmnhehnkaa
