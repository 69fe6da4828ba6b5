/- MEnB -/
import Derived.Test.YtopamplmpfndlaaEar
import Derived.Test.YtopamplmpfndlaaEau
set_option maxRecDepth 100000
set_option maxHeartbeats 16000000
namespace Go.Proofs.Ytopamplmpfndlaa.Sm
open Go.RowKit
def closeL (kl : List UInt8) (s : Int) (b : UInt8) (t : List UInt8) : List UInt8 := numL s ++ sealL (innerL kl s) s [b] t
theorem closeL_len (kl : List UInt8) (s : Int) (b : UInt8) (t : List UInt8) : (closeL kl s b t).length = t.length + 16 := by
 unfold closeL; rw [List.length_append, sealL_len]; simp [numL]; omega
def TupPost (L : List UInt8) (E : Int) (w : World) (e : Ending) (w' : World) : Prop := ∃ r : Pt, e = .returned (.tuple #[r.V, .int .i64 E]) ∧ r.l = L ∧ r.In w' w'.heap.size ∧ Ex w w'
theorem nil_inE (w : World) (B : Nat) : (Pt.mk none 0 []).In w B := ⟨Nat.le_refl _, fun _ => rfl, fun h => by simp at h⟩
theorem OpenPost.tup {R : Option (List UInt8)} {w : World} {e : Ending} {w' : World} (h : OpenPost R w e w') : TupPost (R.getD []) (if R.isSome then 0 else 30) w e w' := by
 cases R with
 | none =>
  obtain ⟨rfl, hx⟩ := h
  exact ⟨⟨none, 0, []⟩, rfl, rfl, nil_inE _ _, hx⟩
 | some t =>
  obtain ⟨r, h1, h2, h3, h4⟩ := h
  exact ⟨r, h1, h2, h3, h4⟩
end Go.Proofs.Ytopamplmpfndlaa.Sm
