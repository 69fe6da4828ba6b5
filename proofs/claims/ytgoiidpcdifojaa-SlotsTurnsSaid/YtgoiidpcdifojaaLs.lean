/- what comes in to SlotsTurns -/
import Derived.Test.YtgoiidpcdifojaaLr
import Derived.Test.YtgoiidpcdifojaaOpA
import Derived.ChangeSlices
import Derived.Deep.Slices
import Derived.Deep.Fields
namespace Go.Proofs.Ytgoiidpcdifojaa
open Go.ChangeShapes Go.WideShapes Go.ChangeAt Go.RowKit Go.Deep
set_option maxRecDepth 100000 in
theorem open_bytes {H : Type} {enc : TypeId × Value → H} {W : World} {n : Nat} {cs : List Value} {x : DataW H × List MemPlace} (h : DataW.trod enc Try.prog W 0 (fun _ => true) true n 27 cs = some x) :
    ∃ p : Sm.Pt, cs = [p.V] ∧ p.In W W.heap.size ∧ p.l.length ≤ 9223372036854775807 := by
  rcases open_ints Try.underlying27 Try.underlying5 Sm.Try.cellsU8 h with ⟨hcs, hx⟩ | ⟨a, len, cap, zs, hcs, _, hl, hm, hz, hx, hcell, hwz⟩
  · exact ⟨⟨none, 0, []⟩, hcs, ⟨Nat.le_refl _, fun _ => rfl, fun h => absurd h (Nat.lt_irrefl 0)⟩, Nat.zero_le _⟩
  · simp only [if_true] at hz
    have hlen : ((zs.take len).map fun n => UInt8.ofNat n.toNat).length = len := by simp; omega
    refine ⟨⟨some a, cap, (zs.take len).map fun n => UInt8.ofNat n.toNat⟩, by rw [hcs]; unfold Sm.Pt.V; simp only [hlen], ⟨by simp only [hlen]; exact hl, (fun h => by cases h), fun h0 => ?_⟩, by simp only [hlen]; unfold maxLen at hm; omega⟩
    simp only [hlen] at h0 ⊢
    obtain ⟨ab, ao, spot⟩ := a
    have hspot : spot = none := by simpa [Addr.add] using World.cell?_spot (hcell 0 (by omega))
    subst hspot
    refine ⟨ab, ao, rfl, by have := World.block_lt_of_cell? W _ (hcell 0 (by omega)); simpa [Addr.add] using this, fun i hi => ?_⟩
    have hcj := hcell i (by omega)
    rw [Addr.add_lit] at hcj
    rw [hcj]
    have hb := range_u8 hwz i
    have e : zs[i]? = some (zs[i]'(by omega)) := List.getElem?_eq_getElem (by omega)
    have e2 : (List.map (fun n => UInt8.ofNat n.toNat) (zs.take len)).getD i 0 = UInt8.ofNat (zs[i]'(by omega)).toNat := by
      simp [List.getD, hi, e]
    rw [e2, List.getD_eq_getElem?_getD, e]
    rw [e] at hb
    simp only [Option.getD_some] at hb ⊢
    congr 2
    simp only [UInt8.toNat_ofNat']
    omega
theorem Try.cells27 : Try.prog.cellsOf 27 = 1 := by kernel_rfl
def RowsIn (W : World) (v : Value) : Prop := ∃ q : Rw, v = q.V ∧ q.In W
set_option maxRecDepth 100000 in
theorem open_rows {H : Type} (enc : TypeId × Value → H) (W : World) (v : Value) {d : DataW H} {ps : List MemPlace} (base : Nat) (hval : Value.okWide Try.prog W .any base 39 v) (h : DataW.Trod enc Try.prog W 0 (fun _ => true) true 39 v d ps) : RowsIn W v := by
  obtain ⟨a1, len1, cap1, rfl⟩ := okWide_slice Try.underlying39 hval
  obtain ⟨fuel, hf⟩ := h
  rcases open_slice Try.underlying39 hf with ⟨hcs, hx⟩ | ⟨a, len, cap, m, n, D, Pl, hcs, hb, hl, hm, hmm, hx, hi⟩
  · simp [Value.cells] at hcs
    obtain ⟨rfl, rfl, rfl⟩ := hcs
    exact ⟨⟨none, 0, []⟩, rfl, ⟨Nat.zero_le _, fun h => absurd h (Nat.lt_irrefl 0)⟩⟩
  · simp [Value.cells] at hcs
    obtain ⟨rfl, rfl, rfl⟩ := hcs
    simp only [if_true] at hmm
    have key : ∀ i : Fin len1, ∃ p : Sm.Pt, W.cell? ((a.add (i.1 * 1)).add 0) = some p.V ∧ p.In W W.heap.size ∧ p.l.length ≤ 9223372036854775807 := fun i => by
      obtain ⟨cs', hc, ht'⟩ := hi i.1 (by have := i.2; omega)
      rw [Try.cells27] at hc
      obtain ⟨_, hcl, hat⟩ := World.cells?_some hc
      obtain ⟨p, e, p1, p2⟩ := open_bytes ht'
      subst e
      exact ⟨p, (hat 0 (by omega)).trans rfl, p1, p2⟩
    obtain ⟨f, hff⟩ := Classical.axiomOfChoice key
    have hget : ∀ (i : Nat) (x : Sm.Pt), (List.ofFn f)[i]? = some x → ∃ hi : i < len1, x = f ⟨i, hi⟩ := fun i x hx => by
      have hlt : i < len1 := by have := (List.getElem?_eq_some_iff.1 hx).1; simpa using this
      refine ⟨hlt, ?_⟩
      rw [List.getElem?_ofFn, dif_pos hlt] at hx
      exact (Option.some.inj hx).symm
    refine ⟨⟨some a, cap1, List.ofFn f⟩, by unfold Rw.V; simp, ⟨by have := Nat.le_trans hl hm; unfold maxLen at this; simpa using this, fun h0 => ?_⟩⟩
    have hpos : 0 < len1 := by have h1 : 0 < (List.ofFn f).length := h0; rwa [List.length_ofFn] at h1
    obtain ⟨ab, ao, spot⟩ := a
    have hc0 := (hff ⟨0, hpos⟩).1
    have hspot : spot = none := by simpa [Addr.add] using World.cell?_spot hc0
    subst hspot
    refine ⟨ab, ao, rfl, by have := World.block_lt_of_cell? W _ hc0; simpa [Addr.add] using this, fun i x hx => ?_⟩
    obtain ⟨h1, rfl⟩ := hget i x hx
    obtain ⟨z0, z1, z2⟩ := hff ⟨i, h1⟩
    rw [Addr.add_lit, Addr.add_lit] at z0
    exact ⟨by simpa using z0, z1, z2⟩
theorem slotsTurns_law (v : Value) (n a : Int) (w : World) (h0 : RowsIn w v) (hn : (Lit.int .i64 n).wf = true) (ha : (Lit.int .i64 a).wf = true) :
    Calls Try.prog 5 #[v, .int .i64 n, .int .i64 a] w fun e w' => e = .returned (.bool true) ∧ Below w.heap.size w w' := by
  obtain ⟨q, rfl, hq⟩ := h0
  exact slotsTurns_walk q n a hn ha w hq
end Go.Proofs.Ytgoiidpcdifojaa
