/- Rn, Rw -/
import Derived.Test.YtmjfnpmnhehnkaaPbm
set_option maxRecDepth 100000
set_option maxHeartbeats 16000000
namespace Go.Proofs.Ytmjfnpmnhehnkaa
open Go.ChangeShapes Go.WideShapes Go.ChangeAt Go.RowKit Go.Deep
theorem seg_drop (cs : List Value) (o c : Nat) : cs.drop o = (cs.drop o).take c ++ cs.drop (o + c) := by
  rw [← List.drop_drop]; exact (List.take_append_drop c (cs.drop o)).symm
def byOf : Value → UInt8
  | .int _ z => UInt8.ofNat z.toNat
  | _ => 0
theorem byOf_int (b : UInt8) : byOf (.int .u8 (b.toNat : Int)) = b := by
  unfold byOf; simp
theorem open_row {H : Type} {enc : TypeId × Value → H} {P : Program} {w : World} {base : Nat} {spare : Nat → Bool} {held : Bool} {m n : Nat} {t e : TypeId} {cs : List Value} {x : DataW H × List MemPlace}
    (ht : P.underlying t = some (.array n e)) (he : P.underlying e = some (.int .u8)) (hce : P.cellsOf e = 1) (hct : P.cellsOf t = n) (h : DataW.trod enc P w base spare held m t cs = some x) :
    ∃ l : List UInt8, l.length = n ∧ cs = Lib.byteCells l := by
  obtain ⟨xs, m', _, _, hl, hx, hi⟩ := DataW.trod_array ht h
  rw [hct] at hl
  have key : ∀ i, i < n → ∃ b : UInt8, cs[i]? = some (.int .u8 (b.toNat : Int)) := by
    intro i h1
    have h2 := hi i h1
    rw [hce, Nat.mul_one, List.getElem?_eq_getElem (by omega)] at h2
    obtain ⟨z, h3, _, h5⟩ := DataW.trod_int he h2
    have hz : 0 ≤ z ∧ z < 256 := by
      simp [Lit.wf, IntKind.min, IntKind.max, IntKind.signed, IntKind.bits] at h5
      omega
    refine ⟨UInt8.ofNat z.toNat, ?_⟩
    have h6 : (cs.drop i).take 1 = [cs[i]] := by
      rw [List.drop_eq_getElem_cons (by omega)]; rfl
    rw [h6] at h3
    injection h3 with h3
    rw [List.getElem?_eq_getElem (by omega), h3]
    have : z.toNat < 256 := by omega
    rw [UInt8.toNat_ofNat_of_lt' (by simpa using this)]
    simp; omega
  refine ⟨(List.range n).map fun i => byOf (cs.getD i undef), by simp, ?_⟩
  apply List.ext_getElem?
  intro i
  by_cases h1 : i < n
  · obtain ⟨b, hb⟩ := key i h1
    have e1 : cs.getD i undef = .int .u8 (b.toNat : Int) := by simp [List.getD, hb]
    rw [hb]
    simp only [Lib.byteCells, List.getElem?_map, List.getElem?_range h1, Option.map_some, e1, byOf_int]
  rw [List.getElem?_eq_none (by omega), List.getElem?_eq_none (by simp [Lib.byteCells]; omega)]
theorem Try.cells32 : Try.prog.cellsOf 32 = 4 := by kernel_rfl
theorem Try.cells34 : Try.prog.cellsOf 34 = 16 := by kernel_rfl
theorem Try.cells4 : Try.prog.cellsOf 4 = 1 := by kernel_rfl
theorem Try.cells28 : Try.prog.cellsOf 28 = 1 := by kernel_rfl
theorem Try.cells37 : Try.prog.cellsOf 37 = 1 := by kernel_rfl
theorem kvs_cells {H : Type} {enc : TypeId × Value → H} {W : World} {n0 : Nat} {cs : List Value} {x : DataW H × List MemPlace} (hf : DataW.trod enc Try.prog W 0 (fun _ => true) true n0 28 cs = some x) :
    ∃ (ad : Option Addr) (cap : Nat) (l : List Kv), cs = [.slice ad l.length cap] ∧ Kvp.In ad cap l W ∧ cap ≤ 9223372036854775807 := by
  rcases open_slice Try.underlying28 hf with ⟨hcs, hx⟩ | ⟨a, len, cap, m, n, D, Pl, hcs, hb, hl, hm, hmm, hx, hi⟩
  · exact ⟨none, 0, [], hcs, ⟨Nat.le_refl _, fun _ => rfl, fun i x hx => by simp at hx, fun h => absurd h (Nat.lt_irrefl 0)⟩, Nat.zero_le _⟩
  simp only [if_true] at hmm
  have key : ∀ i : Fin len, ∃ z : Kv, z.In W ∧ ∀ (j : Nat) (u : Value), z.C[j]? = some u → W.cell? ((a.add (i.1 * 8)).add j) = some u := fun i => by
    obtain ⟨cs', hc, ht'⟩ := hi i.1 (by have := i.2; omega)
    rw [Try.cells27] at hc
    obtain ⟨_, hcl, hat⟩ := World.cells?_some hc
    obtain ⟨z, z1, z3⟩ := kv_cells hcl ht'
    refine ⟨z, z3, fun j u hu => ?_⟩
    have hj : j < 8 := by rw [← z1] at hu; have := (List.getElem?_eq_some_iff.1 hu).1; omega
    rw [hat j hj, z1]; exact hu
  obtain ⟨f, hff⟩ := Classical.axiomOfChoice key
  have hget : ∀ (i : Nat) (x : Kv), (List.ofFn f)[i]? = some x → ∃ hi : i < len, x = f ⟨i, hi⟩ := fun i x hx => by
    have hlt : i < len := by have := (List.getElem?_eq_some_iff.1 hx).1; simpa using this
    refine ⟨hlt, ?_⟩
    rw [List.getElem?_ofFn, dif_pos hlt] at hx
    exact (Option.some.inj hx).symm
  refine ⟨some a, cap, List.ofFn f, by rw [hcs]; simp, ⟨by simpa using hl, (fun h => by cases h), fun i x hx => ?_, fun h0 => ?_⟩, by have := hm; unfold maxLen at this; simpa using this⟩
  · obtain ⟨h1, rfl⟩ := hget i x hx
    exact (hff ⟨i, h1⟩).1
  have hpos : 0 < len := by rwa [List.length_ofFn] at h0
  obtain ⟨ab, ao, spot⟩ := a
  have hc0 := (hff ⟨0, hpos⟩).2 0 _ rfl
  have hspot : spot = none := by simpa [Addr.add] using World.cell?_spot hc0
  subst hspot
  refine ⟨ab, ao, rfl, by have := World.block_lt_of_cell? W _ hc0; simpa [Addr.add] using this, fun i x hx => ?_⟩
  obtain ⟨h1, rfl⟩ := hget i x hx
  intro j u hu
  have z1 := (hff ⟨i, h1⟩).2 j u hu
  rw [Addr.add_lit, Addr.add_lit] at z1
  exact z1
theorem Try.cells36 : Try.prog.cellsOf 36 = 42 := by kernel_rfl
def fields36 : List Field := [⟨ "ID", 32, 0, false, "", "", 0⟩, ⟨ "Gen", 24, 4, false, "", "", 8⟩, ⟨ "Pin", 34, 5, false, "", "", 16⟩, ⟨ "Secret", 25, 21, false, "", "", 32⟩, ⟨ "Limit", 3, 22, false, "", "", 56⟩, ⟨ "Used", 3, 23, false, "", "", 64⟩, ⟨ "Owner", 34, 24, false, "", "", 72⟩, ⟨ "Gone", 4, 40, false, "", "", 88⟩, ⟨ "Wiped", 4, 41, false, "", "", 89⟩]
theorem fields36_is : (Try.prog.fieldsOf 36).toList = fields36 := by
  unfold Program.fieldsOf
  rw [Try.underlying36]
  rfl
theorem under36 : Try.prog.underlying 36 = some (.struct (Try.prog.fieldsOf 36)) := by
  unfold Program.fieldsOf; rw [Try.underlying36]
theorem vt_cells {H : Type} {enc : TypeId × Value → H} {W : World} {n : Nat} {cs : List Value} {x : DataW H × List MemPlace} (hl : cs.length = 42) (h : DataW.trod enc Try.prog W 0 (fun _ => true) true n 36 cs = some x) :
    ∃ z : Vt, cs = z.C ∧ VI W z := by
  obtain ⟨xs, k, _, _, _, hlen, hf⟩ := DataW.trod_struct under36 h
  have hfs : (Try.prog.fieldsOf 36).toList = fields36 := fields36_is
  have g0 : (Try.prog.fieldsOf 36)[0]? = some ⟨ "ID", 32, 0, false, "", "", 0⟩ := by rw [← Array.getElem?_toList, hfs]; rfl
  have g1 : (Try.prog.fieldsOf 36)[1]? = some ⟨ "Gen", 24, 4, false, "", "", 8⟩ := by rw [← Array.getElem?_toList, hfs]; rfl
  have g2 : (Try.prog.fieldsOf 36)[2]? = some ⟨ "Pin", 34, 5, false, "", "", 16⟩ := by rw [← Array.getElem?_toList, hfs]; rfl
  have g3 : (Try.prog.fieldsOf 36)[3]? = some ⟨ "Secret", 25, 21, false, "", "", 32⟩ := by rw [← Array.getElem?_toList, hfs]; rfl
  have g4 : (Try.prog.fieldsOf 36)[4]? = some ⟨ "Limit", 3, 22, false, "", "", 56⟩ := by rw [← Array.getElem?_toList, hfs]; rfl
  have g5 : (Try.prog.fieldsOf 36)[5]? = some ⟨ "Used", 3, 23, false, "", "", 64⟩ := by rw [← Array.getElem?_toList, hfs]; rfl
  have g6 : (Try.prog.fieldsOf 36)[6]? = some ⟨ "Owner", 34, 24, false, "", "", 72⟩ := by rw [← Array.getElem?_toList, hfs]; rfl
  have g7 : (Try.prog.fieldsOf 36)[7]? = some ⟨ "Gone", 4, 40, false, "", "", 88⟩ := by rw [← Array.getElem?_toList, hfs]; rfl
  have g8 : (Try.prog.fieldsOf 36)[8]? = some ⟨ "Wiped", 4, 41, false, "", "", 89⟩ := by rw [← Array.getElem?_toList, hfs]; rfl
  have hn : xs.length = 9 := by rw [hlen, ← Array.length_toList, hfs]; rfl
  match xs, hn with
  | [y0, y1, y2, y3, y4, y5, y6, y7, y8], _ =>
    have f0 : DataW.trod enc Try.prog W 0 (fun _ => true) true k 32 ((cs.drop 0).take (Try.prog.cellsOf 32)) = some y0 := hf 0 _ g0
    rw [Try.cells32] at f0
    obtain ⟨d0, n0, e0⟩ := open_row Try.underlying32 Try.underlying5 Try.cells5 Try.cells32 f0
    have f1 : DataW.trod enc Try.prog W 0 (fun _ => true) true k 24 ((cs.drop 4).take (Try.prog.cellsOf 24)) = some y1 := hf 1 _ g1
    rw [Try.cells24] at f1
    obtain ⟨m1, e1, _, w1⟩ := DataW.trod_int Try.underlying24 f1
    have f2 : DataW.trod enc Try.prog W 0 (fun _ => true) true k 34 ((cs.drop 5).take (Try.prog.cellsOf 34)) = some y2 := hf 2 _ g2
    rw [Try.cells34] at f2
    obtain ⟨d2, n2, e2⟩ := open_row Try.underlying34 Try.underlying5 Try.cells5 Try.cells34 f2
    have f3 : DataW.trod enc Try.prog W 0 (fun _ => true) true k 25 ((cs.drop 21).take (Try.prog.cellsOf 25)) = some y3 := hf 3 _ g3
    rw [Try.cells25] at f3
    obtain ⟨p3, e3, in3, ln3⟩ := open_bytes f3
    have f4 : DataW.trod enc Try.prog W 0 (fun _ => true) true k 3 ((cs.drop 22).take (Try.prog.cellsOf 3)) = some y4 := hf 4 _ g4
    rw [Try.cells3] at f4
    obtain ⟨m4, e4, _, w4⟩ := DataW.trod_int Try.underlying3 f4
    have f5 : DataW.trod enc Try.prog W 0 (fun _ => true) true k 3 ((cs.drop 23).take (Try.prog.cellsOf 3)) = some y5 := hf 5 _ g5
    rw [Try.cells3] at f5
    obtain ⟨m5, e5, _, w5⟩ := DataW.trod_int Try.underlying3 f5
    have f6 : DataW.trod enc Try.prog W 0 (fun _ => true) true k 34 ((cs.drop 24).take (Try.prog.cellsOf 34)) = some y6 := hf 6 _ g6
    rw [Try.cells34] at f6
    obtain ⟨d6, n6, e6⟩ := open_row Try.underlying34 Try.underlying5 Try.cells5 Try.cells34 f6
    have f7 : DataW.trod enc Try.prog W 0 (fun _ => true) true k 4 ((cs.drop 40).take (Try.prog.cellsOf 4)) = some y7 := hf 7 _ g7
    rw [Try.cells4] at f7
    obtain ⟨b7, e7, _⟩ := DataW.trod_bool Try.underlying4 f7
    have f8 : DataW.trod enc Try.prog W 0 (fun _ => true) true k 4 ((cs.drop 41).take (Try.prog.cellsOf 4)) = some y8 := hf 8 _ g8
    rw [Try.cells4] at f8
    obtain ⟨b8, e8, _⟩ := DataW.trod_bool Try.underlying4 f8
    have hcs : cs = (cs.drop 0).take 4 ++ ((cs.drop 4).take 1 ++ ((cs.drop 5).take 16 ++ ((cs.drop 21).take 1 ++ ((cs.drop 22).take 1 ++ ((cs.drop 23).take 1 ++ ((cs.drop 24).take 16 ++ ((cs.drop 40).take 1 ++ ((cs.drop 41).take 1)))))))) := by
      have s0 : cs.drop 0 = (cs.drop 0).take 4 ++ cs.drop 4 := (seg_drop cs 0 4)
      have s1 : cs.drop 4 = (cs.drop 4).take 1 ++ cs.drop 5 := (seg_drop cs 4 1)
      have s2 : cs.drop 5 = (cs.drop 5).take 16 ++ cs.drop 21 := (seg_drop cs 5 16)
      have s3 : cs.drop 21 = (cs.drop 21).take 1 ++ cs.drop 22 := (seg_drop cs 21 1)
      have s4 : cs.drop 22 = (cs.drop 22).take 1 ++ cs.drop 23 := (seg_drop cs 22 1)
      have s5 : cs.drop 23 = (cs.drop 23).take 1 ++ cs.drop 24 := (seg_drop cs 23 1)
      have s6 : cs.drop 24 = (cs.drop 24).take 16 ++ cs.drop 40 := (seg_drop cs 24 16)
      have s7 : cs.drop 40 = (cs.drop 40).take 1 ++ cs.drop 41 := (seg_drop cs 40 1)
      have s8 : cs.drop 41 = (cs.drop 41).take 1 := (List.take_of_length_le (by rw [List.length_drop, hl]; exact Nat.le_refl _)).symm
      conv => lhs; rw [show cs = cs.drop 0 from rfl]
      conv => lhs; rw [s0]
      conv => lhs; rhs; rw [s1]
      conv => lhs; rhs; rhs; rw [s2]
      conv => lhs; rhs; rhs; rhs; rw [s3]
      conv => lhs; rhs; rhs; rhs; rhs; rw [s4]
      conv => lhs; rhs; rhs; rhs; rhs; rhs; rw [s5]
      conv => lhs; rhs; rhs; rhs; rhs; rhs; rhs; rw [s6]
      conv => lhs; rhs; rhs; rhs; rhs; rhs; rhs; rhs; rw [s7]
      conv => lhs; rhs; rhs; rhs; rhs; rhs; rhs; rhs; rhs; rw [s8]
    rw [e0, e1, e2, e3, e4, e5, e6, e7, e8] at hcs
    exact ⟨⟨d0, m1, d2, p3, m4, m5, d6, b7, b8⟩, hcs.trans (by simp [Vt.C]), ⟨⟨n0, (wf_u64 w1).1, (wf_u64 w1).2, n2, (wf_i64 w4).1, (wf_i64 w4).2, (wf_i64 w5).1, (wf_i64 w5).2, n6⟩, in3⟩⟩
theorem vts_cells {H : Type} {enc : TypeId × Value → H} {W : World} {n0 : Nat} {cs : List Value} {x : DataW H × List MemPlace} (hf : DataW.trod enc Try.prog W 0 (fun _ => true) true n0 37 cs = some x) :
    ∃ (ad : Option Addr) (cap : Nat) (l : List Vt), cs = [.slice ad l.length cap] ∧ Vp.In ad cap l W ∧ (∀ (i : Nat) (x : Vt), l[i]? = some x → VI W x) ∧ cap ≤ 9223372036854775807 := by
  rcases open_slice Try.underlying37 hf with ⟨hcs, hx⟩ | ⟨a, len, cap, m, n, D, Pl, hcs, hb, hl, hm, hmm, hx, hi⟩
  · exact ⟨none, 0, [], hcs, ⟨Nat.le_refl _, fun _ => rfl, fun i x hx => by simp at hx, fun h => absurd h (Nat.lt_irrefl 0)⟩, fun i x hx => by simp at hx, Nat.zero_le _⟩
  simp only [if_true] at hmm
  have key : ∀ i : Fin len, ∃ z : Vt, VI W z ∧ ∀ (j : Nat) (u : Value), z.C[j]? = some u → W.cell? ((a.add (i.1 * 42)).add j) = some u := fun i => by
    obtain ⟨cs', hc, ht'⟩ := hi i.1 (by have := i.2; omega)
    rw [Try.cells36] at hc
    obtain ⟨_, hcl, hat⟩ := World.cells?_some hc
    obtain ⟨z, z1, z3⟩ := vt_cells hcl ht'
    refine ⟨z, z3, fun j u hu => ?_⟩
    have hj : j < 42 := by rw [← z1] at hu; have := (List.getElem?_eq_some_iff.1 hu).1; omega
    rw [hat j hj, z1]; exact hu
  obtain ⟨f, hff⟩ := Classical.axiomOfChoice key
  have hget : ∀ (i : Nat) (x : Vt), (List.ofFn f)[i]? = some x → ∃ hi : i < len, x = f ⟨i, hi⟩ := fun i x hx => by
    have hlt : i < len := by have := (List.getElem?_eq_some_iff.1 hx).1; simpa using this
    refine ⟨hlt, ?_⟩
    rw [List.getElem?_ofFn, dif_pos hlt] at hx
    exact (Option.some.inj hx).symm
  refine ⟨some a, cap, List.ofFn f, by rw [hcs]; simp, ⟨by simpa using hl, (fun h => by cases h), fun i x hx => ?_, fun h0 => ?_⟩, fun i x hx => ?_, by have := hm; unfold maxLen at this; simpa using this⟩
  · obtain ⟨h1, rfl⟩ := hget i x hx
    exact (hff ⟨i, h1⟩).1.ok
  · have hpos : 0 < len := by rwa [List.length_ofFn] at h0
    obtain ⟨ab, ao, spot⟩ := a
    have hc0 := (hff ⟨0, hpos⟩).2 0 _ (List.getElem?_eq_getElem (by rw [Vt.len (hff ⟨0, hpos⟩).1.ok]; decide))
    have hspot : spot = none := by simpa [Addr.add] using World.cell?_spot hc0
    subst hspot
    refine ⟨ab, ao, rfl, by have := World.block_lt_of_cell? W _ hc0; simpa [Addr.add] using this, fun i x hx => ?_⟩
    obtain ⟨h1, rfl⟩ := hget i x hx
    intro j u hu
    have z1 := (hff ⟨i, h1⟩).2 j u hu
    rw [Addr.add_lit, Addr.add_lit] at z1
    exact z1
  obtain ⟨h1, rfl⟩ := hget i x hx
  exact (hff ⟨i, h1⟩).1
theorem Try.cells30 : Try.prog.cellsOf 30 = 13 := by kernel_rfl
def fields30 : List Field := [⟨ "Kind", 3, 0, false, "", "", 0⟩, ⟨ "Shard", 3, 1, false, "", "", 8⟩, ⟨ "To", 3, 2, false, "", "", 16⟩, ⟨ "Epoch", 24, 3, false, "", "", 24⟩, ⟨ "V", 27, 4, false, "", "", 32⟩, ⟨ "L", 28, 12, false, "", "", 112⟩]
theorem fields30_is : (Try.prog.fieldsOf 30).toList = fields30 := by
  unfold Program.fieldsOf
  rw [Try.underlying30]
  rfl
theorem under30 : Try.prog.underlying 30 = some (.struct (Try.prog.fieldsOf 30)) := by
  unfold Program.fieldsOf; rw [Try.underlying30]
theorem kr_cells {H : Type} {enc : TypeId × Value → H} {W : World} {n : Nat} {cs : List Value} {x : DataW H × List MemPlace} (hl : cs.length = 13) (h : DataW.trod enc Try.prog W 0 (fun _ => true) true n 30 cs = some x) :
    ∃ z : Rr, cs = z.C ∧ z.In W := by
  obtain ⟨xs, k, _, _, _, hlen, hf⟩ := DataW.trod_struct under30 h
  have hfs : (Try.prog.fieldsOf 30).toList = fields30 := fields30_is
  have g0 : (Try.prog.fieldsOf 30)[0]? = some ⟨ "Kind", 3, 0, false, "", "", 0⟩ := by rw [← Array.getElem?_toList, hfs]; rfl
  have g1 : (Try.prog.fieldsOf 30)[1]? = some ⟨ "Shard", 3, 1, false, "", "", 8⟩ := by rw [← Array.getElem?_toList, hfs]; rfl
  have g2 : (Try.prog.fieldsOf 30)[2]? = some ⟨ "To", 3, 2, false, "", "", 16⟩ := by rw [← Array.getElem?_toList, hfs]; rfl
  have g3 : (Try.prog.fieldsOf 30)[3]? = some ⟨ "Epoch", 24, 3, false, "", "", 24⟩ := by rw [← Array.getElem?_toList, hfs]; rfl
  have g4 : (Try.prog.fieldsOf 30)[4]? = some ⟨ "V", 27, 4, false, "", "", 32⟩ := by rw [← Array.getElem?_toList, hfs]; rfl
  have g5 : (Try.prog.fieldsOf 30)[5]? = some ⟨ "L", 28, 12, false, "", "", 112⟩ := by rw [← Array.getElem?_toList, hfs]; rfl
  have hn : xs.length = 6 := by rw [hlen, ← Array.length_toList, hfs]; rfl
  match xs, hn with
  | [y0, y1, y2, y3, y4, y5], _ =>
    have f0 : DataW.trod enc Try.prog W 0 (fun _ => true) true k 3 ((cs.drop 0).take (Try.prog.cellsOf 3)) = some y0 := hf 0 _ g0
    rw [Try.cells3] at f0
    obtain ⟨m0, e0, _, w0⟩ := DataW.trod_int Try.underlying3 f0
    have f1 : DataW.trod enc Try.prog W 0 (fun _ => true) true k 3 ((cs.drop 1).take (Try.prog.cellsOf 3)) = some y1 := hf 1 _ g1
    rw [Try.cells3] at f1
    obtain ⟨m1, e1, _, w1⟩ := DataW.trod_int Try.underlying3 f1
    have f2 : DataW.trod enc Try.prog W 0 (fun _ => true) true k 3 ((cs.drop 2).take (Try.prog.cellsOf 3)) = some y2 := hf 2 _ g2
    rw [Try.cells3] at f2
    obtain ⟨m2, e2, _, w2⟩ := DataW.trod_int Try.underlying3 f2
    have f3 : DataW.trod enc Try.prog W 0 (fun _ => true) true k 24 ((cs.drop 3).take (Try.prog.cellsOf 24)) = some y3 := hf 3 _ g3
    rw [Try.cells24] at f3
    obtain ⟨m3, e3, _, w3⟩ := DataW.trod_int Try.underlying24 f3
    have f4 : DataW.trod enc Try.prog W 0 (fun _ => true) true k 27 ((cs.drop 4).take (Try.prog.cellsOf 27)) = some y4 := hf 4 _ g4
    rw [Try.cells27] at f4
    obtain ⟨z4, e4, i4⟩ := kv_cells (by rw [List.length_take, List.length_drop, hl]; rfl) f4
    have f5 : DataW.trod enc Try.prog W 0 (fun _ => true) true k 28 ((cs.drop 12).take (Try.prog.cellsOf 28)) = some y5 := hf 5 _ g5
    rw [Try.cells28] at f5
    obtain ⟨ad5, cap5, l5, e5, in5, cp5⟩ := kvs_cells f5
    have hcs : cs = (cs.drop 0).take 1 ++ ((cs.drop 1).take 1 ++ ((cs.drop 2).take 1 ++ ((cs.drop 3).take 1 ++ ((cs.drop 4).take 8 ++ ((cs.drop 12).take 1))))) := by
      have s0 : cs.drop 0 = (cs.drop 0).take 1 ++ cs.drop 1 := (seg_drop cs 0 1)
      have s1 : cs.drop 1 = (cs.drop 1).take 1 ++ cs.drop 2 := (seg_drop cs 1 1)
      have s2 : cs.drop 2 = (cs.drop 2).take 1 ++ cs.drop 3 := (seg_drop cs 2 1)
      have s3 : cs.drop 3 = (cs.drop 3).take 1 ++ cs.drop 4 := (seg_drop cs 3 1)
      have s4 : cs.drop 4 = (cs.drop 4).take 8 ++ cs.drop 12 := (seg_drop cs 4 8)
      have s5 : cs.drop 12 = (cs.drop 12).take 1 := (List.take_of_length_le (by rw [List.length_drop, hl]; exact Nat.le_refl _)).symm
      conv => lhs; rw [show cs = cs.drop 0 from rfl]
      conv => lhs; rw [s0]
      conv => lhs; rhs; rw [s1]
      conv => lhs; rhs; rhs; rw [s2]
      conv => lhs; rhs; rhs; rhs; rw [s3]
      conv => lhs; rhs; rhs; rhs; rhs; rw [s4]
      conv => lhs; rhs; rhs; rhs; rhs; rhs; rw [s5]
    rw [e0, e1, e2, e3, e4, e5] at hcs
    exact ⟨⟨m0, m1, m2, m3, z4, ad5, cap5, l5⟩, hcs.trans (by simp [Rr.C]), ⟨wf_i64 w0, wf_i64 w1, wf_i64 w2, wf_u64 w3, i4, in5, cp5⟩⟩
theorem Try.cells39 : Try.prog.cellsOf 39 = 47 := by kernel_rfl
def fields39 : List Field := [⟨ "Kind", 3, 0, false, "", "", 0⟩, ⟨ "Shard", 3, 1, false, "", "", 8⟩, ⟨ "To", 3, 2, false, "", "", 16⟩, ⟨ "Epoch", 24, 3, false, "", "", 24⟩, ⟨ "Vault", 36, 4, false, "", "", 32⟩, ⟨ "Vaults", 37, 46, false, "", "", 128⟩]
theorem fields39_is : (Try.prog.fieldsOf 39).toList = fields39 := by
  unfold Program.fieldsOf
  rw [Try.underlying39]
  rfl
theorem under39 : Try.prog.underlying 39 = some (.struct (Try.prog.fieldsOf 39)) := by
  unfold Program.fieldsOf; rw [Try.underlying39]
theorem rk_cells {H : Type} {enc : TypeId × Value → H} {W : World} {n : Nat} {cs : List Value} {x : DataW H × List MemPlace} (hl : cs.length = 47) (h : DataW.trod enc Try.prog W 0 (fun _ => true) true n 39 cs = some x) :
    ∃ z : Rk, cs = z.C ∧ z.In W := by
  obtain ⟨xs, k, _, _, _, hlen, hf⟩ := DataW.trod_struct under39 h
  have hfs : (Try.prog.fieldsOf 39).toList = fields39 := fields39_is
  have g0 : (Try.prog.fieldsOf 39)[0]? = some ⟨ "Kind", 3, 0, false, "", "", 0⟩ := by rw [← Array.getElem?_toList, hfs]; rfl
  have g1 : (Try.prog.fieldsOf 39)[1]? = some ⟨ "Shard", 3, 1, false, "", "", 8⟩ := by rw [← Array.getElem?_toList, hfs]; rfl
  have g2 : (Try.prog.fieldsOf 39)[2]? = some ⟨ "To", 3, 2, false, "", "", 16⟩ := by rw [← Array.getElem?_toList, hfs]; rfl
  have g3 : (Try.prog.fieldsOf 39)[3]? = some ⟨ "Epoch", 24, 3, false, "", "", 24⟩ := by rw [← Array.getElem?_toList, hfs]; rfl
  have g4 : (Try.prog.fieldsOf 39)[4]? = some ⟨ "Vault", 36, 4, false, "", "", 32⟩ := by rw [← Array.getElem?_toList, hfs]; rfl
  have g5 : (Try.prog.fieldsOf 39)[5]? = some ⟨ "Vaults", 37, 46, false, "", "", 128⟩ := by rw [← Array.getElem?_toList, hfs]; rfl
  have hn : xs.length = 6 := by rw [hlen, ← Array.length_toList, hfs]; rfl
  match xs, hn with
  | [y0, y1, y2, y3, y4, y5], _ =>
    have f0 : DataW.trod enc Try.prog W 0 (fun _ => true) true k 3 ((cs.drop 0).take (Try.prog.cellsOf 3)) = some y0 := hf 0 _ g0
    rw [Try.cells3] at f0
    obtain ⟨m0, e0, _, w0⟩ := DataW.trod_int Try.underlying3 f0
    have f1 : DataW.trod enc Try.prog W 0 (fun _ => true) true k 3 ((cs.drop 1).take (Try.prog.cellsOf 3)) = some y1 := hf 1 _ g1
    rw [Try.cells3] at f1
    obtain ⟨m1, e1, _, w1⟩ := DataW.trod_int Try.underlying3 f1
    have f2 : DataW.trod enc Try.prog W 0 (fun _ => true) true k 3 ((cs.drop 2).take (Try.prog.cellsOf 3)) = some y2 := hf 2 _ g2
    rw [Try.cells3] at f2
    obtain ⟨m2, e2, _, w2⟩ := DataW.trod_int Try.underlying3 f2
    have f3 : DataW.trod enc Try.prog W 0 (fun _ => true) true k 24 ((cs.drop 3).take (Try.prog.cellsOf 24)) = some y3 := hf 3 _ g3
    rw [Try.cells24] at f3
    obtain ⟨m3, e3, _, w3⟩ := DataW.trod_int Try.underlying24 f3
    have f4 : DataW.trod enc Try.prog W 0 (fun _ => true) true k 36 ((cs.drop 4).take (Try.prog.cellsOf 36)) = some y4 := hf 4 _ g4
    rw [Try.cells36] at f4
    obtain ⟨z4, e4, i4⟩ := vt_cells (by rw [List.length_take, List.length_drop, hl]; rfl) f4
    have f5 : DataW.trod enc Try.prog W 0 (fun _ => true) true k 37 ((cs.drop 46).take (Try.prog.cellsOf 37)) = some y5 := hf 5 _ g5
    rw [Try.cells37] at f5
    obtain ⟨ad5, cap5, l5, e5, in5, vi5, cp5⟩ := vts_cells f5
    have hcs : cs = (cs.drop 0).take 1 ++ ((cs.drop 1).take 1 ++ ((cs.drop 2).take 1 ++ ((cs.drop 3).take 1 ++ ((cs.drop 4).take 42 ++ ((cs.drop 46).take 1))))) := by
      have s0 : cs.drop 0 = (cs.drop 0).take 1 ++ cs.drop 1 := (seg_drop cs 0 1)
      have s1 : cs.drop 1 = (cs.drop 1).take 1 ++ cs.drop 2 := (seg_drop cs 1 1)
      have s2 : cs.drop 2 = (cs.drop 2).take 1 ++ cs.drop 3 := (seg_drop cs 2 1)
      have s3 : cs.drop 3 = (cs.drop 3).take 1 ++ cs.drop 4 := (seg_drop cs 3 1)
      have s4 : cs.drop 4 = (cs.drop 4).take 42 ++ cs.drop 46 := (seg_drop cs 4 42)
      have s5 : cs.drop 46 = (cs.drop 46).take 1 := (List.take_of_length_le (by rw [List.length_drop, hl]; exact Nat.le_refl _)).symm
      conv => lhs; rw [show cs = cs.drop 0 from rfl]
      conv => lhs; rw [s0]
      conv => lhs; rhs; rw [s1]
      conv => lhs; rhs; rhs; rw [s2]
      conv => lhs; rhs; rhs; rhs; rw [s3]
      conv => lhs; rhs; rhs; rhs; rhs; rw [s4]
      conv => lhs; rhs; rhs; rhs; rhs; rhs; rw [s5]
    rw [e0, e1, e2, e3, e4, e5] at hcs
    exact ⟨⟨m0, m1, m2, m3, z4, ad5, cap5, l5⟩, hcs.trans (by simp [Rk.C]), ⟨wf_i64 w0, wf_i64 w1, wf_i64 w2, wf_u64 w3, i4, in5, cp5, vi5⟩⟩
theorem Try.cells41 : Try.prog.cellsOf 41 = 64 := by kernel_rfl
def fields41 : List Field := [⟨ "Kind", 3, 0, false, "", "", 0⟩, ⟨ "Role", 3, 1, false, "", "", 8⟩, ⟨ "To", 3, 2, false, "", "", 16⟩, ⟨ "Epoch", 24, 3, false, "", "", 24⟩, ⟨ "R", 30, 4, false, "", "", 32⟩, ⟨ "Raw", 39, 17, false, "", "", 168⟩]
theorem fields41_is : (Try.prog.fieldsOf 41).toList = fields41 := by
  unfold Program.fieldsOf
  rw [Try.underlying41]
  rfl
theorem under41 : Try.prog.underlying 41 = some (.struct (Try.prog.fieldsOf 41)) := by
  unfold Program.fieldsOf; rw [Try.underlying41]
theorem aw_cells {H : Type} {enc : TypeId × Value → H} {W : World} {n : Nat} {cs : List Value} {x : DataW H × List MemPlace} (hl : cs.length = 64) (h : DataW.trod enc Try.prog W 0 (fun _ => true) true n 41 cs = some x) :
    ∃ z : Aw, cs = z.C ∧ z.In W := by
  obtain ⟨xs, k, _, _, _, hlen, hf⟩ := DataW.trod_struct under41 h
  have hfs : (Try.prog.fieldsOf 41).toList = fields41 := fields41_is
  have g0 : (Try.prog.fieldsOf 41)[0]? = some ⟨ "Kind", 3, 0, false, "", "", 0⟩ := by rw [← Array.getElem?_toList, hfs]; rfl
  have g1 : (Try.prog.fieldsOf 41)[1]? = some ⟨ "Role", 3, 1, false, "", "", 8⟩ := by rw [← Array.getElem?_toList, hfs]; rfl
  have g2 : (Try.prog.fieldsOf 41)[2]? = some ⟨ "To", 3, 2, false, "", "", 16⟩ := by rw [← Array.getElem?_toList, hfs]; rfl
  have g3 : (Try.prog.fieldsOf 41)[3]? = some ⟨ "Epoch", 24, 3, false, "", "", 24⟩ := by rw [← Array.getElem?_toList, hfs]; rfl
  have g4 : (Try.prog.fieldsOf 41)[4]? = some ⟨ "R", 30, 4, false, "", "", 32⟩ := by rw [← Array.getElem?_toList, hfs]; rfl
  have g5 : (Try.prog.fieldsOf 41)[5]? = some ⟨ "Raw", 39, 17, false, "", "", 168⟩ := by rw [← Array.getElem?_toList, hfs]; rfl
  have hn : xs.length = 6 := by rw [hlen, ← Array.length_toList, hfs]; rfl
  match xs, hn with
  | [y0, y1, y2, y3, y4, y5], _ =>
    have f0 : DataW.trod enc Try.prog W 0 (fun _ => true) true k 3 ((cs.drop 0).take (Try.prog.cellsOf 3)) = some y0 := hf 0 _ g0
    rw [Try.cells3] at f0
    obtain ⟨m0, e0, _, w0⟩ := DataW.trod_int Try.underlying3 f0
    have f1 : DataW.trod enc Try.prog W 0 (fun _ => true) true k 3 ((cs.drop 1).take (Try.prog.cellsOf 3)) = some y1 := hf 1 _ g1
    rw [Try.cells3] at f1
    obtain ⟨m1, e1, _, w1⟩ := DataW.trod_int Try.underlying3 f1
    have f2 : DataW.trod enc Try.prog W 0 (fun _ => true) true k 3 ((cs.drop 2).take (Try.prog.cellsOf 3)) = some y2 := hf 2 _ g2
    rw [Try.cells3] at f2
    obtain ⟨m2, e2, _, w2⟩ := DataW.trod_int Try.underlying3 f2
    have f3 : DataW.trod enc Try.prog W 0 (fun _ => true) true k 24 ((cs.drop 3).take (Try.prog.cellsOf 24)) = some y3 := hf 3 _ g3
    rw [Try.cells24] at f3
    obtain ⟨m3, e3, _, w3⟩ := DataW.trod_int Try.underlying24 f3
    have f4 : DataW.trod enc Try.prog W 0 (fun _ => true) true k 30 ((cs.drop 4).take (Try.prog.cellsOf 30)) = some y4 := hf 4 _ g4
    rw [Try.cells30] at f4
    obtain ⟨z4, e4, i4⟩ := kr_cells (by rw [List.length_take, List.length_drop, hl]; rfl) f4
    have f5 : DataW.trod enc Try.prog W 0 (fun _ => true) true k 39 ((cs.drop 17).take (Try.prog.cellsOf 39)) = some y5 := hf 5 _ g5
    rw [Try.cells39] at f5
    obtain ⟨z5, e5, i5⟩ := rk_cells (by rw [List.length_take, List.length_drop, hl]; rfl) f5
    have hcs : cs = (cs.drop 0).take 1 ++ ((cs.drop 1).take 1 ++ ((cs.drop 2).take 1 ++ ((cs.drop 3).take 1 ++ ((cs.drop 4).take 13 ++ ((cs.drop 17).take 47))))) := by
      have s0 : cs.drop 0 = (cs.drop 0).take 1 ++ cs.drop 1 := (seg_drop cs 0 1)
      have s1 : cs.drop 1 = (cs.drop 1).take 1 ++ cs.drop 2 := (seg_drop cs 1 1)
      have s2 : cs.drop 2 = (cs.drop 2).take 1 ++ cs.drop 3 := (seg_drop cs 2 1)
      have s3 : cs.drop 3 = (cs.drop 3).take 1 ++ cs.drop 4 := (seg_drop cs 3 1)
      have s4 : cs.drop 4 = (cs.drop 4).take 13 ++ cs.drop 17 := (seg_drop cs 4 13)
      have s5 : cs.drop 17 = (cs.drop 17).take 47 := (List.take_of_length_le (by rw [List.length_drop, hl]; exact Nat.le_refl _)).symm
      conv => lhs; rw [show cs = cs.drop 0 from rfl]
      conv => lhs; rw [s0]
      conv => lhs; rhs; rw [s1]
      conv => lhs; rhs; rhs; rw [s2]
      conv => lhs; rhs; rhs; rhs; rw [s3]
      conv => lhs; rhs; rhs; rhs; rhs; rw [s4]
      conv => lhs; rhs; rhs; rhs; rhs; rhs; rw [s5]
    rw [e0, e1, e2, e3, e4, e5] at hcs
    exact ⟨⟨m0, m1, m2, m3, z4, z5⟩, hcs.trans (by simp [Aw.C]), ⟨wf_i64 w0, wf_i64 w1, wf_i64 w2, wf_u64 w3, i4, i5⟩⟩
def AwpRow (W : World) (v : Value) : Prop := ∃ (ad : Option Addr) (cap : Nat) (l : List Aw), v = .slice ad l.length cap ∧ Awp.In ad cap l W ∧ l.length ≤ 9223372036854775807
theorem open_aws {H : Type} (enc : TypeId × Value → H) (W : World) (v : Value) {d : DataW H} {ps : List MemPlace} (base : Nat) (hval : Value.okWide Try.prog W .any base 23 v) (h : DataW.Trod enc Try.prog W 0 (fun _ => true) true 23 v d ps) : AwpRow W v := by
  obtain ⟨a1, len1, cap1, rfl⟩ := okWide_slice Try.underlying23 hval
  obtain ⟨fuel, hf⟩ := h
  rcases open_slice Try.underlying23 hf with ⟨hcs, hx⟩ | ⟨a, len, cap, m, n, D, Pl, hcs, hb, hl, hm, hmm, hx, hi⟩
  · simp [Value.cells] at hcs
    obtain ⟨rfl, rfl, rfl⟩ := hcs
    exact ⟨none, 0, [], rfl, ⟨Nat.le_refl _, fun _ => rfl, fun i x hx => by simp at hx, fun h => absurd h (Nat.lt_irrefl 0)⟩, Nat.zero_le _⟩
  simp [Value.cells] at hcs
  obtain ⟨rfl, rfl, rfl⟩ := hcs
  simp only [if_true] at hmm
  have key : ∀ i : Fin len1, ∃ z : Aw, z.In W ∧ ∀ (j : Nat) (u : Value), z.C[j]? = some u → W.cell? ((a.add (i.1 * 64)).add j) = some u := fun i => by
    obtain ⟨cs', hc, ht'⟩ := hi i.1 (by have := i.2; omega)
    rw [Try.cells41] at hc
    obtain ⟨_, hcl, hat⟩ := World.cells?_some hc
    obtain ⟨z, z1, z3⟩ := aw_cells hcl ht'
    refine ⟨z, z3, fun j u hu => ?_⟩
    have hj : j < 64 := by rw [← z1] at hu; have := (List.getElem?_eq_some_iff.1 hu).1; omega
    rw [hat j hj, z1]; exact hu
  obtain ⟨f, hff⟩ := Classical.axiomOfChoice key
  have hget : ∀ (i : Nat) (x : Aw), (List.ofFn f)[i]? = some x → ∃ hi : i < len1, x = f ⟨i, hi⟩ := fun i x hx => by
    have hlt : i < len1 := by have := (List.getElem?_eq_some_iff.1 hx).1; simpa using this
    refine ⟨hlt, ?_⟩
    rw [List.getElem?_ofFn, dif_pos hlt] at hx
    exact (Option.some.inj hx).symm
  refine ⟨some a, cap1, List.ofFn f, by simp, ⟨by simpa using hl, (fun h => by cases h), fun i x hx => ?_, fun h0 => ?_⟩, by have := Nat.le_trans hl hm; unfold maxLen at this; simpa using this⟩
  · obtain ⟨h1, rfl⟩ := hget i x hx
    exact (hff ⟨i, h1⟩).1
  have hpos : 0 < len1 := by rwa [List.length_ofFn] at h0
  obtain ⟨ab, ao, spot⟩ := a
  have hc0 := (hff ⟨0, hpos⟩).2 0 _ rfl
  have hspot : spot = none := by simpa [Addr.add] using World.cell?_spot hc0
  subst hspot
  refine ⟨ab, ao, rfl, by have := World.block_lt_of_cell? W _ hc0; simpa [Addr.add] using this, fun i x hx => ?_⟩
  obtain ⟨h1, rfl⟩ := hget i x hx
  intro j u hu
  have z1 := (hff ⟨i, h1⟩).2 j u hu
  rw [Addr.add_lit, Addr.add_lit] at z1
  exact z1
theorem wf64 {n : Int} (h : (Lit.int .i64 n).wf = true) : i64 n := by
  have z : -9223372036854775808 ≤ n ∧ n ≤ 9223372036854775807 := by simpa [Lit.wf, IntKind.min, IntKind.max, IntKind.bits, IntKind.signed] using h
  exact z
theorem aw_nil (w : World) : Awp.In none 0 [] w := ⟨Nat.le_refl _, fun _ => rfl, fun i x hx => by simp at hx, fun h => absurd h (Nat.lt_irrefl 0)⟩
theorem play16_nil (m n : Int) (hm : i64 m) (hn : i64 n) (w : World) : Calls Try.prog 15 #[.int .i64 m, .int .i64 n, .slice none 0 0] w fun e w' => e = .returned (.bool true) ∧ Ex w w' :=
  play16 m n hm hn none 0 [] w (by decide) (aw_nil w)
theorem plays16_law (m n : Int) (v : Value) (w : World) (hm : (Lit.int .i64 m).wf = true) (hn : (Lit.int .i64 n).wf = true) (h : AwpRow w v) : Calls Try.prog 4 #[.int .i64 m, .int .i64 n, v] w fun e w' => e = .returned (.bool true) ∧ Below w.heap.size w w' := by
  obtain ⟨ad, cap, l, rfl, hin, hL⟩ := h
  have HM := Hi (wf64 hm)
  have HNN := Hi (wf64 hn)
  have HIN := Hi hin
  obtain ⟨nn, hn9⟩ : ∃ z, z = l.length := ⟨_, rfl⟩
  have HN := Hi hn9
  rw [← hn9]
  clear hm hn hin hn9
  go_enter Try.func4, Try.ntmps4
  go_wp2_with fail
  refine (within_any2 n 1 8 HNN.out (by omega) (by omega) (by omega) w).mono ?_
  rintro e w1 ⟨⟨k, rfl, k0, k1⟩, rfl⟩
  go_wp2_with fail
  refine (within_any2 m 0 (k - 1) HM.out (by omega) (by omega) (by omega) w).mono ?_
  rintro e w1 ⟨⟨j, rfl, j0, j1⟩, rfl⟩
  go_wp2_with fail
  rw [HN.out]
  refine (play16 j k ⟨by omega, by omega⟩ ⟨by omega, by omega⟩ ad cap l w hL HIN.out).mono ?_
  rw [← HN.out]
  rintro e w2 ⟨rfl, x2⟩
  have X2 := Hi x2
  clear x2
  go_wp2_with fail
  refine (play16_nil m n HM.out HNN.out w2).mono ?_
  rintro e w3 ⟨rfl, x3⟩
  have X3 := Hi (Ex.trans X2.out x3)
  clear x3
  go_wp2_with fail
  refine (known16 w3).mono ?_
  rintro e w4 ⟨rfl, x4⟩
  have X4 := Hi (Ex.trans X3.out x4)
  clear x4
  go_wp2_with fail
  go_ret
  exact ⟨rfl, X4.out⟩
end Go.Proofs.Ytmjfnpmnhehnkaa
