/- what comes in: rows of bools; PostFull, of what comes in -/
import Derived.Test.YtedljddjmojeeaaPh
import Derived.Test.YtedljddjmojeeaaVm
import Derived.Deep.Grids
namespace Go.Proofs.Ytedljddjmojeeaa
open Go.ChangeShapes Go.WideShapes Go.ChangeAt Go.RowKit Go.Deep
def BlRow (W : World) (v : Value) : Prop := ∃ (ad : Option Addr) (cap m : Nat) (B : Nat → Bool), v = .slice ad m cap ∧ BIn ad m B W
theorem Try.cellsBool : Try.prog.cellsOf 4 = 1 := by kernel_rfl
set_option maxRecDepth 100000 in
theorem open_bls {H : Type} (enc : TypeId × Value → H) (W : World) (v : Value) {d : DataW H} {ps : List MemPlace} (base : Nat) (hval : Value.okWide Try.prog W .any base 85 v) (h : DataW.Trod enc Try.prog W 0 (fun _ => true) true 85 v d ps) : BlRow W v := by
  obtain ⟨a1, len1, cap1, rfl⟩ := okWide_slice Try.underlying85 hval
  obtain ⟨fuel, hf⟩ := h
  rcases open_bools Try.underlying85 Try.underlying4 Try.cellsBool hf with ⟨hcs, hx⟩ | ⟨a, len, cap, B, hcs, hb, hl, hm, hx, hcell⟩
  · simp [Value.cells] at hcs
    obtain ⟨rfl, rfl, rfl⟩ := hcs
    exact ⟨none, 0, 0, fun _ => false, rfl, Nat.zero_le _, fun h => absurd h (Nat.lt_irrefl 0)⟩
  · simp [Value.cells] at hcs
    obtain ⟨rfl, rfl, rfl⟩ := hcs
    refine ⟨some a, cap1, len1, B, rfl, by have := Nat.le_trans hl hm; unfold maxLen at this; simpa using this, fun h0 => ?_⟩
    obtain ⟨ab, ao, spot⟩ := a
    have hc0 := hcell 0 (by omega)
    have hspot : spot = none := by simpa [Addr.add] using World.cell?_spot hc0
    subst hspot
    exact ⟨ab, ao, rfl, by have := World.block_lt_of_cell? W _ hc0; simpa [Addr.add] using this, fun i hi => by
      have := hcell i (by omega)
      rw [Addr.add_lit] at this
      exact this⟩
theorem full_law (v : Value) (w : World) (h : BlRow w v) : Calls Try.prog 12 #[v] w fun e w' => e = .returned (.bool true) ∧ Below w.heap.size w w' := by
  obtain ⟨ad, cap, m, B, rfl, hin⟩ := h
  exact full_any ad cap m B w hin
end Go.Proofs.Ytedljddjmojeeaa
