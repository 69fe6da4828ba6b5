/- what TableFills stands on -/
import Derived.Test.YtedljddjmojeeaaTl
namespace Go.Proofs.Ytedljddjmojeeaa
open Go.RowKit
theorem FillPost.yes {D : Nat} {rv : Value} {vs xs : List Vt} {w w' : World} {e : Ending} (h : FillPost D rv vs xs w e w') (hr : Rising xs) : e = .returned (.int .i64 0) ∧ ∃ rv' ys, TB w' D rv' ys ∧ ys.map Vt.ct = xs.map Vt.ct ∧ (∀ g, rv'.ownBlock = some g → w.heap.size ≤ g) ∧ Kt [99] D w w' := by
  rcases h with ⟨_, h1, h2⟩ | ⟨h1, _⟩
  · exact ⟨h1, h2⟩
  · exact absurd hr h1
theorem FillPost.no {D : Nat} {rv : Value} {vs xs : List Vt} {w w' : World} {e : Ending} (h : FillPost D rv vs xs w e w') (hr : ¬ Rising xs) : e = .returned (.int .i64 1) ∧ Ex w w' := by
  rcases h with ⟨h1, _⟩ | ⟨_, h1, h2⟩
  · exact absurd h1 hr
  · exact ⟨h1, h2⟩
theorem VRow.vis {w : World} {B : Nat} {v : Value} {xs : List Vt} (h : VRow w B v xs) : ∀ (i : Nat) (x : Vt), xs[i]? = some x → VI w x := fun i x hx => (h.ins i x hx).vi
theorem VRow.inn2 {w : World} {B : Nat} {v : Value} {xs : List Vt} (h : VRow w B v xs) : ∃ ad cap, v = .slice ad xs.length cap ∧ Vp.In ad cap xs w ∧ cap ≤ 9223372036854775807 := by
  obtain ⟨ad, cap, e, hin⟩ := h.inn
  obtain ⟨ad2, cap2, e2, _, _, hc, _⟩ := own_rd h.row
  rw [e] at e2; cases e2
  exact ⟨ad, cap, e, hin, hc⟩
theorem VRow.rd {w : World} {B n cap : Nat} {ad : Option Addr} {xs : List Vt} (h : VRow w B (.slice ad n cap) xs) : Vp.In ad cap xs w ∧ cap ≤ 9223372036854775807 ∧ n = xs.length := by
  obtain ⟨ad2, cap2, e, h1, h2⟩ := h.inn2
  cases e
  exact ⟨h1, h2, rfl⟩
theorem made_odd {xs ys zs : List Vt} (hx : Made 0 xs) (hy : Made 1 ys) (hz : zs.map Vt.ct = xs.map Vt.ct) {k : Nat} {y : Vt} (hk : ys[k]? = some y) : ¬ ∃ q, q < zs.length ∧ idF zs q = idn y.id := by
  rintro ⟨q, h1, h2⟩
  have hl : zs.length = xs.length := by have := congrArg List.length hz; simpa using this
  rw [idF_ct hz, hx.idF (by decide) (by omega), ← idF_at ys k y hk, hy.idF (by decide) (List.getElem?_eq_some_iff.1 hk).1] at h2
  omega
end Go.Proofs.Ytedljddjmojeeaa
