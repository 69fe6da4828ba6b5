/- a slice of ints opened -/
import Derived.Test.YtiomokjidipjkaaB9
import Derived.ProofKit
import Derived.OpenShut
namespace Go.Proofs.Ytiomokjidipjkaa
open Go.RowKit Go.ChangeShapes Go.WideShapes
theorem openInts {H : Type} (enc : TypeId × Value → H) (W : World) (v : Value) (base : Nat) {d : DataW H} {ps : List MemPlace} (hok : Value.okWide Try.checked.prog W .any base 29 v)
    (h : DataW.Trod enc Try.prog W 0 (fun _ => true) true 29 v d ps) : IntRow W v := by
  obtain ⟨a0, len0, cap0, rfl⟩ := okWide_slice Try.underlying29 hok
  obtain ⟨fuel, hf⟩ := h
  rcases open_ints Try.underlying29 Try.underlying3 (by kernel_rfl) hf with ⟨hcs, _⟩ | ⟨x, l, c, zs, hcs, _, hl, hm, hz, _, hcell, hwz⟩
  · simp [Value.cells] at hcs
    obtain ⟨rfl, rfl, rfl⟩ := hcs
    exact ⟨none, 0, 0, rfl, Nat.zero_le _, .inl rfl⟩
  · simp [Value.cells] at hcs
    obtain ⟨rfl, rfl, rfl⟩ := hcs
    refine ⟨_, len0, cap0, rfl, Nat.le_trans hl hm, ?_⟩
    by_cases h0 : len0 = 0
    · exact .inl h0
    · right
      simp only [if_true] at hz
      obtain ⟨b, off, spot⟩ := x
      have hc := hcell 0 (by omega)
      have hspot : spot = none := by simpa [Addr.add] using World.cell?_spot hc
      subst hspot
      have hlt : b < W.heap.size := by
        have := World.block_lt_of_cell? W _ hc
        simpa [Addr.add] using this
      refine ⟨b, off, rfl, hlt, fun i hi => ?_⟩
      have := hcell i (by omega)
      rw [Addr.add_lit] at this
      exact ⟨_, this⟩
end Go.Proofs.Ytiomokjidipjkaa
