/- Sj -/
import Derived.Test.YtmjfnpmnhehnkaaZax
import Derived.ChangeSlices
import Derived.Deep.Slices
import Derived.Deep.Fields
import Derived.OpenShut
namespace Go.Proofs.Ytmjfnpmnhehnkaa
open Go.ChangeShapes Go.WideShapes Go.ChangeAt Go.RowKit Go.Deep
set_option maxRecDepth 100000 in
theorem open_bytes {H : Type} {enc : TypeId × Value → H} {W : World} {n : Nat} {cs : List Value} {x : DataW H × List MemPlace} (h : DataW.trod enc Try.prog W 0 (fun _ => true) true n 25 cs = some x) :
    ∃ p : Pt, cs = [p.V] ∧ p.In W W.heap.size ∧ p.l.length ≤ 9223372036854775807 := by
  rcases open_ints Try.underlying25 Try.underlying5 Try.cells5 h with ⟨hcs, hx⟩ | ⟨a, len, cap, zs, hcs, _, hl, hm, hz, hx, hcell, hwz⟩
  · exact ⟨⟨none, 0, []⟩, hcs, ⟨Nat.le_refl _, fun _ => rfl, fun h => absurd h (Nat.lt_irrefl 0)⟩, Nat.zero_le _⟩
  simp only [if_true] at hz
  have hlen : ((zs.take len).map fun n => UInt8.ofNat n.toNat).length = len := by simp; omega
  refine ⟨⟨some a, cap, (zs.take len).map fun n => UInt8.ofNat n.toNat⟩, by rw [hcs]; unfold Pt.V; simp only [hlen], ⟨by simp only [hlen]; exact hl, (fun h => by cases h), fun h0 => ?_⟩, by simp only [hlen]; unfold maxLen at hm; omega⟩
  simp only [hlen] at h0 ⊢
  obtain ⟨ab, ao, spot⟩ := a
  have hspot : spot = none := by simpa [Addr.add] using World.cell?_spot (hcell 0 (by omega))
  subst hspot
  refine ⟨ab, ao, rfl, by have := World.block_lt_of_cell? W _ (hcell 0 (by omega)); simpa [Addr.add] using this, fun i hi => ?_⟩
  have hcj := hcell i (by omega)
  rw [Addr.add_lit] at hcj
  rw [hcj]
  have hb := range_u8 hwz i
  have e : zs[i]? = some (zs[i]'(by omega)) := List.getElem?_eq_getElem (by omega)
  have e2 : (List.map (fun n => UInt8.ofNat n.toNat) (zs.take len)).getD i 0 = UInt8.ofNat (zs[i]'(by omega)).toNat := by
    simp [List.getD, hi, e]
  rw [e2, List.getD_eq_getElem?_getD, e]
  rw [e] at hb
  simp only [Option.getD_some] at hb ⊢
  congr 2
  simp only [UInt8.toNat_ofNat']
  omega
theorem Try.cells3 : Try.prog.cellsOf 3 = 1 := by kernel_rfl
theorem Try.cells24 : Try.prog.cellsOf 24 = 1 := by kernel_rfl
theorem Try.cells25 : Try.prog.cellsOf 25 = 1 := by kernel_rfl
theorem wf_i64 {n : Int} (h : (Lit.int .i64 n).wf = true) : -9223372036854775808 ≤ n ∧ n ≤ 9223372036854775807 := by
  simp [Lit.wf, IntKind.min, IntKind.max, IntKind.signed, IntKind.bits] at h; omega
theorem wf_u64 {n : Int} (h : (Lit.int .u64 n).wf = true) : 0 ≤ n ∧ n < 18446744073709551616 := by
  simp [Lit.wf, IntKind.min, IntKind.max, IntKind.signed, IntKind.bits] at h; omega
theorem Try.cells27 : Try.prog.cellsOf 27 = 8 := by kernel_rfl
def fields27 : List Field := [⟨ "ID", 3, 0, false, "", "", 0⟩, ⟨ "Pin", 3, 1, false, "", "", 8⟩, ⟨ "Owner", 3, 2, false, "", "", 16⟩, ⟨ "Limit", 3, 3, false, "", "", 24⟩, ⟨ "Used", 3, 4, false, "", "", 32⟩, ⟨ "How", 3, 5, false, "", "", 40⟩, ⟨ "Gen", 24, 6, false, "", "", 48⟩, ⟨ "Secret", 25, 7, false, "", "", 56⟩]
theorem fields27_is : (Try.prog.fieldsOf 27).toList = fields27 := by
  unfold Program.fieldsOf
  rw [Try.underlying27]
  rfl
theorem under27 : Try.prog.underlying 27 = some (.struct (Try.prog.fieldsOf 27)) := by
  unfold Program.fieldsOf; rw [Try.underlying27]
set_option maxRecDepth 100000 in
theorem kv_cells {H : Type} {enc : TypeId × Value → H} {W : World} {n : Nat} {cs : List Value} {x : DataW H × List MemPlace} (hl : cs.length = 8) (h : DataW.trod enc Try.prog W 0 (fun _ => true) true n 27 cs = some x) :
    ∃ z : Kv, cs = z.C ∧ z.In W := by
  obtain ⟨xs, k, _, _, _, hlen, hf⟩ := DataW.trod_struct under27 h
  have hfs : (Try.prog.fieldsOf 27).toList = fields27 := fields27_is
  have g0 : (Try.prog.fieldsOf 27)[0]? = some ⟨ "ID", 3, 0, false, "", "", 0⟩ := by rw [← Array.getElem?_toList, hfs]; rfl
  have g1 : (Try.prog.fieldsOf 27)[1]? = some ⟨ "Pin", 3, 1, false, "", "", 8⟩ := by rw [← Array.getElem?_toList, hfs]; rfl
  have g2 : (Try.prog.fieldsOf 27)[2]? = some ⟨ "Owner", 3, 2, false, "", "", 16⟩ := by rw [← Array.getElem?_toList, hfs]; rfl
  have g3 : (Try.prog.fieldsOf 27)[3]? = some ⟨ "Limit", 3, 3, false, "", "", 24⟩ := by rw [← Array.getElem?_toList, hfs]; rfl
  have g4 : (Try.prog.fieldsOf 27)[4]? = some ⟨ "Used", 3, 4, false, "", "", 32⟩ := by rw [← Array.getElem?_toList, hfs]; rfl
  have g5 : (Try.prog.fieldsOf 27)[5]? = some ⟨ "How", 3, 5, false, "", "", 40⟩ := by rw [← Array.getElem?_toList, hfs]; rfl
  have g6 : (Try.prog.fieldsOf 27)[6]? = some ⟨ "Gen", 24, 6, false, "", "", 48⟩ := by rw [← Array.getElem?_toList, hfs]; rfl
  have g7 : (Try.prog.fieldsOf 27)[7]? = some ⟨ "Secret", 25, 7, false, "", "", 56⟩ := by rw [← Array.getElem?_toList, hfs]; rfl
  have hn : xs.length = 8 := by rw [hlen, ← Array.length_toList, hfs]; rfl
  match xs, hn, cs, hl with
  | [y0, y1, y2, y3, y4, y5, y6, y7], _, [c0, c1, c2, c3, c4, c5, c6, c7], _ =>
    have f0 : DataW.trod enc Try.prog W 0 (fun _ => true) true k 3 (([c0, c1, c2, c3, c4, c5, c6, c7].drop 0).take (Try.prog.cellsOf 3)) = some y0 := hf 0 _ g0
    rw [Try.cells3] at f0
    obtain ⟨m0, e0, _, w0⟩ := DataW.trod_int Try.underlying3 f0
    have e0 : c0 = .int .i64 m0 := by simpa using e0
    have f1 : DataW.trod enc Try.prog W 0 (fun _ => true) true k 3 (([c0, c1, c2, c3, c4, c5, c6, c7].drop 1).take (Try.prog.cellsOf 3)) = some y1 := hf 1 _ g1
    rw [Try.cells3] at f1
    obtain ⟨m1, e1, _, w1⟩ := DataW.trod_int Try.underlying3 f1
    have e1 : c1 = .int .i64 m1 := by simpa using e1
    have f2 : DataW.trod enc Try.prog W 0 (fun _ => true) true k 3 (([c0, c1, c2, c3, c4, c5, c6, c7].drop 2).take (Try.prog.cellsOf 3)) = some y2 := hf 2 _ g2
    rw [Try.cells3] at f2
    obtain ⟨m2, e2, _, w2⟩ := DataW.trod_int Try.underlying3 f2
    have e2 : c2 = .int .i64 m2 := by simpa using e2
    have f3 : DataW.trod enc Try.prog W 0 (fun _ => true) true k 3 (([c0, c1, c2, c3, c4, c5, c6, c7].drop 3).take (Try.prog.cellsOf 3)) = some y3 := hf 3 _ g3
    rw [Try.cells3] at f3
    obtain ⟨m3, e3, _, w3⟩ := DataW.trod_int Try.underlying3 f3
    have e3 : c3 = .int .i64 m3 := by simpa using e3
    have f4 : DataW.trod enc Try.prog W 0 (fun _ => true) true k 3 (([c0, c1, c2, c3, c4, c5, c6, c7].drop 4).take (Try.prog.cellsOf 3)) = some y4 := hf 4 _ g4
    rw [Try.cells3] at f4
    obtain ⟨m4, e4, _, w4⟩ := DataW.trod_int Try.underlying3 f4
    have e4 : c4 = .int .i64 m4 := by simpa using e4
    have f5 : DataW.trod enc Try.prog W 0 (fun _ => true) true k 3 (([c0, c1, c2, c3, c4, c5, c6, c7].drop 5).take (Try.prog.cellsOf 3)) = some y5 := hf 5 _ g5
    rw [Try.cells3] at f5
    obtain ⟨m5, e5, _, w5⟩ := DataW.trod_int Try.underlying3 f5
    have e5 : c5 = .int .i64 m5 := by simpa using e5
    have f6 : DataW.trod enc Try.prog W 0 (fun _ => true) true k 24 (([c0, c1, c2, c3, c4, c5, c6, c7].drop 6).take (Try.prog.cellsOf 24)) = some y6 := hf 6 _ g6
    rw [Try.cells24] at f6
    obtain ⟨m6, e6, _, w6⟩ := DataW.trod_int Try.underlying24 f6
    have e6 : c6 = .int .u64 m6 := by simpa using e6
    have f7 : DataW.trod enc Try.prog W 0 (fun _ => true) true k 25 (([c0, c1, c2, c3, c4, c5, c6, c7].drop 7).take (Try.prog.cellsOf 25)) = some y7 := hf 7 _ g7
    rw [Try.cells25] at f7
    obtain ⟨p7, e7, in7, ln7⟩ := open_bytes f7
    have e7 : c7 = p7.V := by simpa using e7
    exact ⟨⟨m0, m1, m2, m3, m4, m5, m6, p7⟩, by rw [e0, e1, e2, e3, e4, e5, e6, e7]; rfl, ⟨wf_i64 w0, wf_i64 w1, wf_i64 w2, wf_i64 w3, wf_i64 w4, wf_i64 w5, (wf_u64 w6).1, (wf_u64 w6).2, in7, ln7⟩⟩
def KvpRow (W : World) (v : Value) : Prop := ∃ (ad : Option Addr) (cap : Nat) (l : List Kv), v = .slice ad l.length cap ∧ Kvp.In ad cap l W ∧ l.length ≤ 9223372036854775807
set_option maxRecDepth 100000 in
theorem open_kvs {H : Type} (enc : TypeId × Value → H) (W : World) (v : Value) {d : DataW H} {ps : List MemPlace} (base : Nat) (hval : Value.okWide Try.prog W .any base 28 v) (h : DataW.Trod enc Try.prog W 0 (fun _ => true) true 28 v d ps) : KvpRow W v := by
  obtain ⟨a1, len1, cap1, rfl⟩ := okWide_slice Try.underlying28 hval
  obtain ⟨fuel, hf⟩ := h
  rcases open_slice Try.underlying28 hf with ⟨hcs, hx⟩ | ⟨a, len, cap, m, n, D, Pl, hcs, hb, hl, hm, hmm, hx, hi⟩
  · simp [Value.cells] at hcs
    obtain ⟨rfl, rfl, rfl⟩ := hcs
    exact ⟨none, 0, [], rfl, ⟨Nat.le_refl _, fun _ => rfl, fun i x hx => by simp at hx, fun h => absurd h (Nat.lt_irrefl 0)⟩, Nat.zero_le _⟩
  simp [Value.cells] at hcs
  obtain ⟨rfl, rfl, rfl⟩ := hcs
  simp only [if_true] at hmm
  have key : ∀ i : Fin len1, ∃ z : Kv, z.In W ∧ ∀ (j : Nat) (u : Value), z.C[j]? = some u → W.cell? ((a.add (i.1 * 8)).add j) = some u := fun i => by
    obtain ⟨cs', hc, ht'⟩ := hi i.1 (by have := i.2; omega)
    rw [Try.cells27] at hc
    obtain ⟨_, hcl, hat⟩ := World.cells?_some hc
    obtain ⟨z, z1, z3⟩ := kv_cells hcl ht'
    refine ⟨z, z3, fun j u hu => ?_⟩
    have hj : j < 8 := by rw [← z1] at hu; have := (List.getElem?_eq_some_iff.1 hu).1; omega
    rw [hat j hj, z1]; exact hu
  obtain ⟨f, hff⟩ := Classical.axiomOfChoice key
  have hget : ∀ (i : Nat) (x : Kv), (List.ofFn f)[i]? = some x → ∃ hi : i < len1, x = f ⟨i, hi⟩ := fun i x hx => by
    have hlt : i < len1 := by have := (List.getElem?_eq_some_iff.1 hx).1; simpa using this
    refine ⟨hlt, ?_⟩
    rw [List.getElem?_ofFn, dif_pos hlt] at hx
    exact (Option.some.inj hx).symm
  refine ⟨some a, cap1, List.ofFn f, by simp, ⟨by simpa using hl, (fun h => by cases h), fun i x hx => ?_, fun h0 => ?_⟩, by have := Nat.le_trans hl hm; unfold maxLen at this; simpa using this⟩
  · obtain ⟨h1, rfl⟩ := hget i x hx
    exact (hff ⟨i, h1⟩).1
  have hpos : 0 < len1 := by rwa [List.length_ofFn] at h0
  obtain ⟨ab, ao, spot⟩ := a
  have hc0 := (hff ⟨0, hpos⟩).2 0 _ rfl
  have hspot : spot = none := by simpa [Addr.add] using World.cell?_spot hc0
  subst hspot
  refine ⟨ab, ao, rfl, by have := World.block_lt_of_cell? W _ hc0; simpa [Addr.add] using this, fun i x hx => ?_⟩
  obtain ⟨h1, rfl⟩ := hget i x hx
  intro j u hu
  have z1 := (hff ⟨i, h1⟩).2 j u hu
  rw [Addr.add_lit, Addr.add_lit] at z1
  exact z1
theorem keeps_law (v : Value) (w : World) (h : KvpRow w v) : Calls Try.prog 7 #[v] w fun e w' => e = .returned (.bool true) ∧ Below w.heap.size w w' := by
  obtain ⟨ad, cap, l, rfl, hin, hl⟩ := h
  exact keeps_any ad cap l w hl hin
end Go.Proofs.Ytmjfnpmnhehnkaa
