/- what comes in to SlotsApart -/
import Derived.Test.YtgoiidpcdifojaaLo
import Derived.Test.YtgoiidpcdifojaaOpA
import Derived.ChangeSlices
import Derived.Deep.Slices
import Derived.Deep.Fields
namespace Go.Proofs.Ytgoiidpcdifojaa
open Go.ChangeShapes Go.WideShapes Go.ChangeAt Go.RowKit Go.Deep
set_option maxRecDepth 100000 in
theorem open_bytes {H : Type} {enc : TypeId × Value → H} {W : World} {n : Nat} {cs : List Value} {x : DataW H × List MemPlace} (h : DataW.trod enc Try.prog W 0 (fun _ => true) true n 27 cs = some x) :
    ∃ p : Sm.Pt, cs = [p.V] ∧ p.In W W.heap.size ∧ p.l.length ≤ 9223372036854775807 := by
  rcases open_ints Try.underlying27 Try.underlying5 Sm.Try.cellsU8 h with ⟨hcs, hx⟩ | ⟨a, len, cap, zs, hcs, _, hl, hm, hz, hx, hcell, hwz⟩
  · exact ⟨⟨none, 0, []⟩, hcs, ⟨Nat.le_refl _, fun _ => rfl, fun h => absurd h (Nat.lt_irrefl 0)⟩, Nat.zero_le _⟩
  · simp only [if_true] at hz
    have hlen : ((zs.take len).map fun n => UInt8.ofNat n.toNat).length = len := by simp; omega
    refine ⟨⟨some a, cap, (zs.take len).map fun n => UInt8.ofNat n.toNat⟩, by rw [hcs]; unfold Sm.Pt.V; simp only [hlen], ⟨by simp only [hlen]; exact hl, (fun h => by cases h), fun h0 => ?_⟩, by simp only [hlen]; unfold maxLen at hm; omega⟩
    simp only [hlen] at h0 ⊢
    obtain ⟨ab, ao, spot⟩ := a
    have hspot : spot = none := by simpa [Addr.add] using World.cell?_spot (hcell 0 (by omega))
    subst hspot
    refine ⟨ab, ao, rfl, by have := World.block_lt_of_cell? W _ (hcell 0 (by omega)); simpa [Addr.add] using this, fun i hi => ?_⟩
    have hcj := hcell i (by omega)
    rw [Addr.add_lit] at hcj
    rw [hcj]
    have hb := range_u8 hwz i
    have e : zs[i]? = some (zs[i]'(by omega)) := List.getElem?_eq_getElem (by omega)
    have e2 : (List.map (fun n => UInt8.ofNat n.toNat) (zs.take len)).getD i 0 = UInt8.ofNat (zs[i]'(by omega)).toNat := by
      simp [List.getD, hi, e]
    rw [e2, List.getD_eq_getElem?_getD, e]
    rw [e] at hb
    simp only [Option.getD_some] at hb ⊢
    congr 2
    simp only [UInt8.toNat_ofNat']
    omega
theorem Try.cells3 : Try.prog.cellsOf 3 = 1 := by kernel_rfl
theorem Try.cells27 : Try.prog.cellsOf 27 = 1 := by kernel_rfl
theorem Try.cells29 : Try.prog.cellsOf 29 = 4 := by kernel_rfl
def fields29 : List Field := [⟨ "Kind", 3, 0, false, "", "", 0⟩, ⟨ "N", 3, 1, false, "", "", 8⟩, ⟨ "At", 3, 2, false, "", "", 16⟩, ⟨ "B", 27, 3, false, "", "", 24⟩]
theorem fields29_is : (Try.prog.fieldsOf 29).toList = fields29 := by
  unfold Program.fieldsOf
  rw [Try.underlying29]
  rfl
theorem under29 : Try.prog.underlying 29 = some (.struct (Try.prog.fieldsOf 29)) := by
  unfold Program.fieldsOf; rw [Try.underlying29]
set_option maxRecDepth 100000 in
theorem ask_cells {H : Type} {enc : TypeId × Value → H} {W : World} {n : Nat} {cs : List Value} {x : DataW H × List MemPlace} (hl : cs.length = 4) (h : DataW.trod enc Try.prog W 0 (fun _ => true) true n 29 cs = some x) :
    ∃ z : Ak, cs[0]? = some (.int .i64 z.k) ∧ cs[1]? = some (.int .i64 z.n) ∧ cs[2]? = some (.int .i64 z.t) ∧ cs[3]? = some z.p.V ∧ z.p.In W W.heap.size ∧ z.p.l.length ≤ 9223372036854775807 ∧ (Lit.int .i64 z.k).wf = true ∧ (Lit.int .i64 z.n).wf = true ∧ (Lit.int .i64 z.t).wf = true := by
  obtain ⟨xs, k, _, _, _, hlen, hf⟩ := DataW.trod_struct under29 h
  have hfs : (Try.prog.fieldsOf 29).toList = fields29 := fields29_is
  have g0 : (Try.prog.fieldsOf 29)[0]? = some ⟨ "Kind", 3, 0, false, "", "", 0⟩ := by rw [← Array.getElem?_toList, hfs]; rfl
  have g1 : (Try.prog.fieldsOf 29)[1]? = some ⟨ "N", 3, 1, false, "", "", 8⟩ := by rw [← Array.getElem?_toList, hfs]; rfl
  have g2 : (Try.prog.fieldsOf 29)[2]? = some ⟨ "At", 3, 2, false, "", "", 16⟩ := by rw [← Array.getElem?_toList, hfs]; rfl
  have g3 : (Try.prog.fieldsOf 29)[3]? = some ⟨ "B", 27, 3, false, "", "", 24⟩ := by rw [← Array.getElem?_toList, hfs]; rfl
  have hn : xs.length = 4 := by rw [hlen, ← Array.length_toList, hfs]; rfl
  match xs, hn, cs, hl with
  | [y0, y1, y2, y3], _, [c0, c1, c2, c3], _ =>
    have f0 : DataW.trod enc Try.prog W 0 (fun _ => true) true k 3 (([c0, c1, c2, c3].drop 0).take (Try.prog.cellsOf 3)) = some y0 := hf 0 _ g0
    have f1 : DataW.trod enc Try.prog W 0 (fun _ => true) true k 3 (([c0, c1, c2, c3].drop 1).take (Try.prog.cellsOf 3)) = some y1 := hf 1 _ g1
    have f2 : DataW.trod enc Try.prog W 0 (fun _ => true) true k 3 (([c0, c1, c2, c3].drop 2).take (Try.prog.cellsOf 3)) = some y2 := hf 2 _ g2
    have f3 : DataW.trod enc Try.prog W 0 (fun _ => true) true k 27 (([c0, c1, c2, c3].drop 3).take (Try.prog.cellsOf 27)) = some y3 := hf 3 _ g3
    rw [Try.cells3] at f0 f1 f2
    rw [Try.cells27] at f3
    obtain ⟨m0, e0, _, w0⟩ := DataW.trod_int Try.underlying3 f0
    obtain ⟨m1, e1, _, w1⟩ := DataW.trod_int Try.underlying3 f1
    obtain ⟨m2, e2, _, w2⟩ := DataW.trod_int Try.underlying3 f2
    obtain ⟨p, e3, p1, p2⟩ := open_bytes f3
    have e0 : c0 = .int .i64 m0 := by simpa using e0
    have e1 : c1 = .int .i64 m1 := by simpa using e1
    have e2 : c2 = .int .i64 m2 := by simpa using e2
    have e3 : c3 = p.V := by simpa using e3
    exact ⟨⟨m0, m1, m2, p⟩, by rw [e0]; rfl, by rw [e1]; rfl, by rw [e2]; rfl, by rw [e3]; rfl, p1, p2, w0, w1, w2⟩
def AsksIn (W : World) (v : Value) : Prop := ∃ q : Aw, v = q.V ∧ q.In W
set_option maxRecDepth 100000 in
theorem open_asks {H : Type} (enc : TypeId × Value → H) (W : World) (v : Value) {d : DataW H} {ps : List MemPlace} (base : Nat) (hval : Value.okWide Try.prog W .any base 22 v) (h : DataW.Trod enc Try.prog W 0 (fun _ => true) true 22 v d ps) : AsksIn W v := by
  obtain ⟨a1, len1, cap1, rfl⟩ := okWide_slice Try.underlying22 hval
  obtain ⟨fuel, hf⟩ := h
  rcases open_slice Try.underlying22 hf with ⟨hcs, hx⟩ | ⟨a, len, cap, m, n, D, Pl, hcs, hb, hl, hm, hmm, hx, hi⟩
  · simp [Value.cells] at hcs
    obtain ⟨rfl, rfl, rfl⟩ := hcs
    exact ⟨⟨none, 0, []⟩, rfl, ⟨Nat.zero_le _, fun h => absurd h (Nat.lt_irrefl 0)⟩⟩
  · simp [Value.cells] at hcs
    obtain ⟨rfl, rfl, rfl⟩ := hcs
    simp only [if_true] at hmm
    have key : ∀ i : Fin len1, ∃ z : Ak, W.cell? ((a.add (i.1 * 4)).add 0) = some (.int .i64 z.k) ∧ W.cell? ((a.add (i.1 * 4)).add 1) = some (.int .i64 z.n) ∧ W.cell? ((a.add (i.1 * 4)).add 2) = some (.int .i64 z.t) ∧ W.cell? ((a.add (i.1 * 4)).add 3) = some z.p.V ∧ z.p.In W W.heap.size ∧ z.p.l.length ≤ 9223372036854775807 ∧ (Lit.int .i64 z.k).wf = true ∧ (Lit.int .i64 z.n).wf = true ∧ (Lit.int .i64 z.t).wf = true := fun i => by
      obtain ⟨cs', hc, ht'⟩ := hi i.1 (by have := i.2; omega)
      rw [Try.cells29] at hc
      obtain ⟨_, hcl, hat⟩ := World.cells?_some hc
      obtain ⟨z, z0, z1, z2, z3, z4⟩ := ask_cells hcl ht'
      exact ⟨z, (hat 0 (by omega)).trans z0, (hat 1 (by omega)).trans z1, (hat 2 (by omega)).trans z2, (hat 3 (by omega)).trans z3, z4⟩
    obtain ⟨f, hff⟩ := Classical.axiomOfChoice key
    have hget : ∀ (i : Nat) (x : Ak), (List.ofFn f)[i]? = some x → ∃ hi : i < len1, x = f ⟨i, hi⟩ := fun i x hx => by
      have hlt : i < len1 := by have := (List.getElem?_eq_some_iff.1 hx).1; simpa using this
      refine ⟨hlt, ?_⟩
      rw [List.getElem?_ofFn, dif_pos hlt] at hx
      exact (Option.some.inj hx).symm
    refine ⟨⟨some a, cap1, List.ofFn f⟩, by unfold Aw.V; simp, ⟨by have := Nat.le_trans hl hm; unfold maxLen at this; simpa using this, fun h0 => ?_⟩⟩
    have hpos : 0 < len1 := by have h1 : 0 < (List.ofFn f).length := h0; rwa [List.length_ofFn] at h1
    obtain ⟨ab, ao, spot⟩ := a
    have hc0 := (hff ⟨0, hpos⟩).1
    have hspot : spot = none := by simpa [Addr.add] using World.cell?_spot hc0
    subst hspot
    refine ⟨ab, ao, rfl, by have := World.block_lt_of_cell? W _ hc0; simpa [Addr.add] using this, fun i x hx => ?_⟩
    obtain ⟨h1, rfl⟩ := hget i x hx
    obtain ⟨z0, z1, z2, z3, z4⟩ := hff ⟨i, h1⟩
    rw [Addr.add_lit, Addr.add_lit] at z0 z1 z2 z3
    exact ⟨z0, z1, z2, z3, z4⟩
theorem slotsApart_law (v0 v1 : Value) (w : World) (h0 : AsksIn w v0) (h1 : AsksIn w v1) :
    Calls Try.prog 4 #[v0, v1] w fun e w' => e = .returned (.bool true) ∧ Below w.heap.size w w' := by
  obtain ⟨p, rfl, hp⟩ := h0
  obtain ⟨q, rfl, hq⟩ := h1
  exact slotsApart_walk p q w hp hq
end Go.Proofs.Ytgoiidpcdifojaa
