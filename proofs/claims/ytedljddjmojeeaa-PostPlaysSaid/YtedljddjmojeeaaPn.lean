/- what comes in: rows of letters, of numbers; PostOrder, of what comes in -/
import Derived.Test.YtedljddjmojeeaaPj
import Derived.Test.YtedljddjmojeeaaOb
namespace Go.Proofs.Ytedljddjmojeeaa
open Go.ChangeShapes Go.WideShapes Go.ChangeAt Go.RowKit Go.Deep
theorem Try.cells70 : Try.prog.cellsOf 70 = 4 := by kernel_rfl
def fields70 : List Field := [⟨ "Kind", 3, 0, false, "", "", 0⟩, ⟨ "From", 3, 1, false, "", "", 8⟩, ⟨ "To", 3, 2, false, "", "", 16⟩, ⟨ "Bytes", 28, 3, false, "", "", 24⟩]
theorem fields70_is : (Try.prog.fieldsOf 70).toList = fields70 := by
  unfold Program.fieldsOf
  rw [Try.underlying70]
  rfl
theorem under70 : Try.prog.underlying 70 = some (.struct (Try.prog.fieldsOf 70)) := by
  unfold Program.fieldsOf; rw [Try.underlying70]
set_option maxRecDepth 100000 in
theorem lt_cells {H : Type} {enc : TypeId × Value → H} {W : World} {n : Nat} {cs : List Value} {x : DataW H × List MemPlace} (hl : cs.length = 4) (h : DataW.trod enc Try.prog W 0 (fun _ => true) true n 70 cs = some x) :
    ∃ z : Lt, cs = z.C ∧ z.In W := by
  obtain ⟨xs, k, _, _, _, hlen, hf⟩ := DataW.trod_struct under70 h
  have hfs : (Try.prog.fieldsOf 70).toList = fields70 := fields70_is
  have g0 : (Try.prog.fieldsOf 70)[0]? = some ⟨ "Kind", 3, 0, false, "", "", 0⟩ := by rw [← Array.getElem?_toList, hfs]; rfl
  have g1 : (Try.prog.fieldsOf 70)[1]? = some ⟨ "From", 3, 1, false, "", "", 8⟩ := by rw [← Array.getElem?_toList, hfs]; rfl
  have g2 : (Try.prog.fieldsOf 70)[2]? = some ⟨ "To", 3, 2, false, "", "", 16⟩ := by rw [← Array.getElem?_toList, hfs]; rfl
  have g3 : (Try.prog.fieldsOf 70)[3]? = some ⟨ "Bytes", 28, 3, false, "", "", 24⟩ := by rw [← Array.getElem?_toList, hfs]; rfl
  have hn : xs.length = 4 := by rw [hlen, ← Array.length_toList, hfs]; rfl
  match xs, hn, cs, hl with
  | [y0, y1, y2, y3], _, [c0, c1, c2, c3], _ =>
    have f0 : DataW.trod enc Try.prog W 0 (fun _ => true) true k 3 (([c0, c1, c2, c3].drop 0).take (Try.prog.cellsOf 3)) = some y0 := hf 0 _ g0
    rw [Try.cells3] at f0
    obtain ⟨m0, e0, _, w0⟩ := DataW.trod_int Try.underlying3 f0
    have e0 : c0 = .int .i64 m0 := by simpa using e0
    have f1 : DataW.trod enc Try.prog W 0 (fun _ => true) true k 3 (([c0, c1, c2, c3].drop 1).take (Try.prog.cellsOf 3)) = some y1 := hf 1 _ g1
    rw [Try.cells3] at f1
    obtain ⟨m1, e1, _, w1⟩ := DataW.trod_int Try.underlying3 f1
    have e1 : c1 = .int .i64 m1 := by simpa using e1
    have f2 : DataW.trod enc Try.prog W 0 (fun _ => true) true k 3 (([c0, c1, c2, c3].drop 2).take (Try.prog.cellsOf 3)) = some y2 := hf 2 _ g2
    rw [Try.cells3] at f2
    obtain ⟨m2, e2, _, w2⟩ := DataW.trod_int Try.underlying3 f2
    have e2 : c2 = .int .i64 m2 := by simpa using e2
    have f3 : DataW.trod enc Try.prog W 0 (fun _ => true) true k 28 (([c0, c1, c2, c3].drop 3).take (Try.prog.cellsOf 28)) = some y3 := hf 3 _ g3
    rw [Try.cells28] at f3
    obtain ⟨p3, e3, in3, ln3⟩ := open_bytes f3
    have e3 : c3 = p3.V := by simpa using e3
    exact ⟨⟨m0, m1, m2, p3⟩, by rw [e0, e1, e2, e3]; rfl, ⟨wf_i64 w0, wf_i64 w1, wf_i64 w2, in3, ln3⟩⟩
def LpRow (W : World) (v : Value) : Prop := ∃ (ad : Option Addr) (cap : Nat) (l : List Lt), v = .slice ad l.length cap ∧ Lp.In ad cap l W ∧ l.length ≤ 9223372036854775807
set_option maxRecDepth 100000 in
theorem open_lts {H : Type} (enc : TypeId × Value → H) (W : World) (v : Value) {d : DataW H} {ps : List MemPlace} (base : Nat) (hval : Value.okWide Try.prog W .any base 78 v) (h : DataW.Trod enc Try.prog W 0 (fun _ => true) true 78 v d ps) : LpRow W v := by
  obtain ⟨a1, len1, cap1, rfl⟩ := okWide_slice Try.underlying78 hval
  obtain ⟨fuel, hf⟩ := h
  rcases open_slice Try.underlying78 hf with ⟨hcs, hx⟩ | ⟨a, len, cap, m, n, D, Pl, hcs, hb, hl, hm, hmm, hx, hi⟩
  · simp [Value.cells] at hcs
    obtain ⟨rfl, rfl, rfl⟩ := hcs
    exact ⟨none, 0, [], rfl, ⟨Nat.le_refl _, fun _ => rfl, fun i x hx => by simp at hx, fun h => absurd h (Nat.lt_irrefl 0)⟩, Nat.zero_le _⟩
  · simp [Value.cells] at hcs
    obtain ⟨rfl, rfl, rfl⟩ := hcs
    simp only [if_true] at hmm
    have key : ∀ i : Fin len1, ∃ z : Lt, z.In W ∧ ∀ (j : Nat) (u : Value), z.C[j]? = some u → W.cell? ((a.add (i.1 * 4)).add j) = some u := fun i => by
      obtain ⟨cs', hc, ht'⟩ := hi i.1 (by have := i.2; omega)
      rw [Try.cells70] at hc
      obtain ⟨_, hcl, hat⟩ := World.cells?_some hc
      obtain ⟨z, z1, z3⟩ := lt_cells hcl ht'
      refine ⟨z, z3, fun j u hu => ?_⟩
      have hj : j < 4 := by rw [← z1] at hu; have := (List.getElem?_eq_some_iff.1 hu).1; omega
      rw [hat j hj, z1]; exact hu
    obtain ⟨f, hff⟩ := Classical.axiomOfChoice key
    have hget : ∀ (i : Nat) (x : Lt), (List.ofFn f)[i]? = some x → ∃ hi : i < len1, x = f ⟨i, hi⟩ := fun i x hx => by
      have hlt : i < len1 := by have := (List.getElem?_eq_some_iff.1 hx).1; simpa using this
      refine ⟨hlt, ?_⟩
      rw [List.getElem?_ofFn, dif_pos hlt] at hx
      exact (Option.some.inj hx).symm
    refine ⟨some a, cap1, List.ofFn f, by simp, ⟨by simpa using hl, (fun h => by cases h), fun i x hx => ?_, fun h0 => ?_⟩, by have := Nat.le_trans hl hm; unfold maxLen at this; simpa using this⟩
    · obtain ⟨h1, rfl⟩ := hget i x hx
      exact (hff ⟨i, h1⟩).1
    · have hpos : 0 < len1 := by rwa [List.length_ofFn] at h0
      obtain ⟨ab, ao, spot⟩ := a
      have hc0 := (hff ⟨0, hpos⟩).2 0 _ rfl
      have hspot : spot = none := by simpa [Addr.add] using World.cell?_spot hc0
      subst hspot
      refine ⟨ab, ao, rfl, by have := World.block_lt_of_cell? W _ hc0; simpa [Addr.add] using this, fun i x hx => ?_⟩
      obtain ⟨h1, rfl⟩ := hget i x hx
      intro j u hu
      have z1 := (hff ⟨i, h1⟩).2 j u hu
      rw [Addr.add_lit, Addr.add_lit] at z1
      exact z1

def NumRow (W : World) (v : Value) : Prop := ∃ (ad : Option Addr) (cap m : Nat) (Z : Nat → Int), v = .slice ad m cap ∧ IIn ad m Z W
set_option maxRecDepth 100000 in
theorem open_nums {H : Type} (enc : TypeId × Value → H) (W : World) (v : Value) {d : DataW H} {ps : List MemPlace} (base : Nat) (hval : Value.okWide Try.prog W .any base 53 v) (h : DataW.Trod enc Try.prog W 0 (fun _ => true) true 53 v d ps) : NumRow W v := by
  obtain ⟨a1, len1, cap1, rfl⟩ := okWide_slice Try.underlying53 hval
  obtain ⟨fuel, hf⟩ := h
  rcases open_ints Try.underlying53 Try.underlying3 Try.cells3 hf with ⟨hcs, hx⟩ | ⟨a, len, cap, zs, hcs, _, hl, hm, hz, hx, hcell, hwz⟩
  · simp [Value.cells] at hcs
    obtain ⟨rfl, rfl, rfl⟩ := hcs
    exact ⟨none, 0, 0, fun _ => 0, rfl, Nat.zero_le _, fun i hi => absurd hi (Nat.not_lt_zero i), fun h => absurd h (Nat.lt_irrefl 0)⟩
  · simp [Value.cells] at hcs
    obtain ⟨rfl, rfl, rfl⟩ := hcs
    simp only [if_true] at hz
    refine ⟨some a, cap1, len1, fun i => zs.getD i 0, rfl, by have := Nat.le_trans hl hm; unfold maxLen at this; simpa using this, fun i hi => ?_, fun h0 => ?_⟩
    · refine wf_i64 (hwz _ ?_)
      show zs.getD i 0 ∈ zs
      rw [List.getD_eq_getElem?_getD, List.getElem?_eq_getElem (by omega)]
      exact List.getElem_mem _
    · obtain ⟨ab, ao, spot⟩ := a
      have hc0 := hcell 0 (by omega)
      have hspot : spot = none := by simpa [Addr.add] using World.cell?_spot hc0
      subst hspot
      exact ⟨ab, ao, rfl, by have := World.block_lt_of_cell? W _ hc0; simpa [Addr.add] using this, fun i hi => by
        have := hcell i (by omega)
        rw [Addr.add_lit] at this
        exact this⟩
end Go.Proofs.Ytedljddjmojeeaa
