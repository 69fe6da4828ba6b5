/- MFlD -/
import Derived.Test.YtopamplmpfndlaaEas
set_option maxRecDepth 100000
set_option maxHeartbeats 16000000
namespace Go.Proofs.Ytopamplmpfndlaa.Sm
open Go.RowKit
inductive As3 where
 | any
 | is (x : Value)
 | pt (l : List UInt8)
 | full (l : List UInt8)
 | own (B : Nat) (l : List UInt8)
 | tup (l : List UInt8) (E : Int)
 | blk (base : Nat) (t : TypeId) (cs : Array Value)
def As3.holds : As3 → Value → World → Prop
 | .any, _, _ => True
 | .is x, v, _ => v = x
 | .pt l, v, w => ∃ p : Pt, v = p.V ∧ p.l = l ∧ p.In w w.heap.size
 | .full l, v, w => ∃ p : Pt, v = p.V ∧ p.l = l ∧ p.cap = l.length ∧ p.In w w.heap.size
 | .own B l, v, w => ownU w B v l
 | .tup l E, v, w => ∃ p : Pt, v = .tuple #[p.V, .int .i64 E] ∧ p.l = l ∧ p.In w w.heap.size
 | .blk base t cs, v, w => ∃ g, v = .pointer (some ⟨g, 0, none⟩) ∧ base ≤ g ∧ Bk w g t cs
theorem As3.stable {s : As3} {v : Value} {w w' : World} (h : s.holds v w) (k : Ex w w') : s.holds v w' := by
 cases s with
 | any => exact h
 | is x => exact h
 | pt l =>
  obtain ⟨p, h1, h2, h3⟩ := h
  exact ⟨p, h1, h2, h3.ext k⟩
 | full l =>
  obtain ⟨p, h1, h2, h4, h3⟩ := h
  exact ⟨p, h1, h2, h4, h3.ext k⟩
 | own B l => exact own_under h k
 | tup l E =>
  obtain ⟨p, h1, h2, h3⟩ := h
  exact ⟨p, h1, h2, h3.ext k⟩
 | blk base t cs =>
  obtain ⟨g, h1, h2, h3⟩ := h
  exact ⟨g, h1, h2, h3.ext k⟩
def tabPhi3 (T : List As3) (i : Nat) (v : Value) (w : World) : Prop := (T.getD i .any).holds v w
theorem tabPhi3_stable (T : List As3) (i : Nat) (v : Value) (w w' : World) (h : tabPhi3 T i v w) (k : Ex w w') : tabPhi3 T i v w' := As3.stable h k
end Go.Proofs.Ytopamplmpfndlaa.Sm
