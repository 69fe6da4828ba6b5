/- a digest, a row of bytes that comes in -/
import Derived.Test.YtkneeocicbadjaaOpA
import Derived.Test.YtkneeocicbadjaaBlD
import Derived.ChangeSlices
namespace Go.Proofs.Ytkneeocicbadjaa
open Go.ChangeShapes Go.WideShapes Go.ChangeAt Go.RowKit
theorem open_pt {H : Type} (enc : TypeId × Value → H) (W : World) (v : Value) {d : DataW H} {ps : List MemPlace} (base : Nat) (hval : Value.okWide Try.prog W .any base 22 v) (h : DataW.Trod enc Try.prog W 0 (fun _ => true) true 22 v d ps) :
    ∃ p : Pt, v = p.V ∧ p.In W W.heap.size ∧ p.l.length ≤ 9223372036854775807 := by
  obtain ⟨a1, len, cap, rfl⟩ := okWide_slice Try.underlying22 hval
  obtain ⟨fuel, hf⟩ := h
  rcases open_ints Try.underlying22 Try.underlying5 Try.cellsU8 hf with ⟨hcs, hx⟩ | ⟨a, len', cap', zs, hcs, _, hl, hm, hz, hx, hcell, hwz⟩
  · simp [Value.cells] at hcs
    obtain ⟨rfl, rfl, rfl⟩ := hcs
    exact ⟨⟨none, 0, []⟩, rfl, ⟨Nat.le_refl _, fun _ => rfl, fun h => absurd h (Nat.lt_irrefl 0)⟩, Nat.zero_le _⟩
  · simp [Value.cells] at hcs
    obtain ⟨rfl, rfl, rfl⟩ := hcs
    simp only [if_true] at hz
    have hlen : ((zs.take len).map fun n => UInt8.ofNat n.toNat).length = len := by simp; omega
    refine ⟨⟨some a, cap, (zs.take len).map fun n => UInt8.ofNat n.toNat⟩, by unfold Pt.V; simp only [hlen], ⟨by simp only [hlen]; exact hl, (fun h => by cases h), fun h0 => ?_⟩, by simp only [hlen]; unfold maxLen at hm; omega⟩
    simp only [hlen] at h0 ⊢
    obtain ⟨ab, ao, spot⟩ := a
    have hspot : spot = none := by simpa [Addr.add] using World.cell?_spot (hcell 0 (by omega))
    subst hspot
    refine ⟨ab, ao, rfl, by have := World.block_lt_of_cell? W _ (hcell 0 (by omega)); simpa [Addr.add] using this, fun i hi => ?_⟩
    have hcj := hcell i (by omega)
    rw [Addr.add_lit] at hcj
    rw [hcj]
    have hb := range_u8 hwz i
    have e : zs[i]? = some (zs[i]'(by omega)) := List.getElem?_eq_getElem (by omega)
    have e2 : (List.map (fun n => UInt8.ofNat n.toNat) (zs.take len)).getD i 0 = UInt8.ofNat (zs[i]'(by omega)).toNat := by
      simp [List.getD, hi, e]
    rw [e2, List.getD_eq_getElem?_getD, e]
    rw [e] at hb
    simp only [Option.getD_some] at hb ⊢
    congr 2
    simp only [UInt8.toNat_ofNat']
    omega
end Go.Proofs.Ytkneeocicbadjaa
