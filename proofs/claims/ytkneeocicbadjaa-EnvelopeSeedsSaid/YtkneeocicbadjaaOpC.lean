/- a []uint64 that comes in -/
import Derived.Test.YtkneeocicbadjaaOpB
namespace Go.Proofs.Ytkneeocicbadjaa
open Go.ChangeShapes Go.WideShapes Go.ChangeAt Go.RowKit
def U64Row (w : World) (v : Value) : Prop :=
  ∃ ao n c, v = .slice ao n c ∧ n ≤ maxLen ∧ (n = 0 ∨ ∃ b off, ao = some ⟨b, off, none⟩ ∧ b < w.heap.size ∧ ∀ i, i < n → ∃ k : Int, w.cell? ⟨b, off + i, none⟩ = some (.int .u64 k) ∧ 0 ≤ k ∧ k < 18446744073709551616)
theorem open_u64s {H : Type} (enc : TypeId × Value → H) (W : World) (v : Value) {d : DataW H} {ps : List MemPlace} (base : Nat) (hval : Value.okWide Try.prog W .any base 70 v) (h : DataW.Trod enc Try.prog W 0 (fun _ => true) true 70 v d ps) : U64Row W v := by
  obtain ⟨a0, len0, cap0, rfl⟩ := okWide_slice Try.underlying70 hval
  obtain ⟨fuel, hf⟩ := h
  rcases open_ints Try.underlying70 Try.underlying29 (by kernel_rfl) hf with ⟨hcs, _⟩ | ⟨x, l, c, zs, hcs, _, hl, hm, hz, _, hcell, hwz⟩
  · simp [Value.cells] at hcs
    obtain ⟨rfl, rfl, rfl⟩ := hcs
    exact ⟨none, 0, 0, rfl, Nat.zero_le _, .inl rfl⟩
  · simp [Value.cells] at hcs
    obtain ⟨rfl, rfl, rfl⟩ := hcs
    refine ⟨_, len0, cap0, rfl, Nat.le_trans hl hm, ?_⟩
    by_cases h0 : len0 = 0
    · exact .inl h0
    · right
      simp only [if_true] at hz
      obtain ⟨b, off, spot⟩ := x
      have hc := hcell 0 (by omega)
      have hspot : spot = none := by simpa [Addr.add] using World.cell?_spot hc
      subst hspot
      have hlt : b < W.heap.size := by
        have := World.block_lt_of_cell? W _ hc
        simpa [Addr.add] using this
      refine ⟨b, off, rfl, hlt, fun i hi => ?_⟩
      have h1 := hcell i (by omega)
      rw [Addr.add_lit] at h1
      have e : zs.getD i 0 = zs[i]'(by omega) := by simp [List.getD, show i < zs.length by omega]
      have h2 := hwz (zs.getD i 0) (by rw [e]; exact List.getElem_mem _)
      generalize zs.getD i 0 = k at h1 h2
      refine ⟨k, h1, ?_⟩
      simp [Lit.wf, IntKind.min, IntKind.max, IntKind.signed, IntKind.bits] at h2
      omega
end Go.Proofs.Ytkneeocicbadjaa
