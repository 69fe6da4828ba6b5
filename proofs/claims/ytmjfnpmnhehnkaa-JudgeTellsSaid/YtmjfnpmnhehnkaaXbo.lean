/- Jt, Ju -/
import Derived.Test.YtmjfnpmnhehnkaaXbn
import Derived.Test.YtmjfnpmnhehnkaaXbn
namespace Go.Proofs.Ytmjfnpmnhehnkaa
open Go.ChangeShapes Go.WideShapes Go.ChangeAt Go.RowKit Go.Deep
theorem Try.cells34 : Try.prog.cellsOf 34 = 16 := by kernel_rfl
theorem Try.cells86 : Try.prog.cellsOf 86 = 57 := by kernel_rfl
def fields86 : List Field := [⟨ "Op", 3, 0, false, "", "", 0⟩, ⟨ "ID", 32, 1, false, "", "", 8⟩, ⟨ "Pin", 34, 5, false, "", "", 12⟩, ⟨ "Secret", 25, 21, false, "", "", 32⟩, ⟨ "Limit", 3, 22, false, "", "", 56⟩, ⟨ "Owner", 34, 23, false, "", "", 64⟩, ⟨ "Key", 34, 39, false, "", "", 80⟩, ⟨ "Client", 3, 55, false, "", "", 96⟩, ⟨ "Num", 24, 56, false, "", "", 104⟩]
theorem fields86_is : (Try.prog.fieldsOf 86).toList = fields86 := by
 unfold Program.fieldsOf
 rw [Try.underlying86]
 rfl
theorem under86 : Try.prog.underlying 86 = some (.struct (Try.prog.fieldsOf 86)) := by
 unfold Program.fieldsOf; rw [Try.underlying86]
set_option maxRecDepth 100000 in
theorem qt_cells {H : Type} {enc : TypeId × Value → H} {W : World} {n : Nat} {cs : List Value} {x : DataW H × List MemPlace} (hl : cs.length = 57) (h : DataW.trod enc Try.prog W 0 (fun _ => true) true n 86 cs = some x) :
  ∃ z : Qt, cs = z.C ∧ QI W z := by
 obtain ⟨xs, k, _, _, _, hlen, hf⟩ := DataW.trod_struct under86 h
 have hfs : (Try.prog.fieldsOf 86).toList = fields86 := fields86_is
 have g0 : (Try.prog.fieldsOf 86)[0]? = some ⟨ "Op", 3, 0, false, "", "", 0⟩ := by rw [← Array.getElem?_toList, hfs]; rfl
 have g1 : (Try.prog.fieldsOf 86)[1]? = some ⟨ "ID", 32, 1, false, "", "", 8⟩ := by rw [← Array.getElem?_toList, hfs]; rfl
 have g2 : (Try.prog.fieldsOf 86)[2]? = some ⟨ "Pin", 34, 5, false, "", "", 12⟩ := by rw [← Array.getElem?_toList, hfs]; rfl
 have g3 : (Try.prog.fieldsOf 86)[3]? = some ⟨ "Secret", 25, 21, false, "", "", 32⟩ := by rw [← Array.getElem?_toList, hfs]; rfl
 have g4 : (Try.prog.fieldsOf 86)[4]? = some ⟨ "Limit", 3, 22, false, "", "", 56⟩ := by rw [← Array.getElem?_toList, hfs]; rfl
 have g5 : (Try.prog.fieldsOf 86)[5]? = some ⟨ "Owner", 34, 23, false, "", "", 64⟩ := by rw [← Array.getElem?_toList, hfs]; rfl
 have g6 : (Try.prog.fieldsOf 86)[6]? = some ⟨ "Key", 34, 39, false, "", "", 80⟩ := by rw [← Array.getElem?_toList, hfs]; rfl
 have g7 : (Try.prog.fieldsOf 86)[7]? = some ⟨ "Client", 3, 55, false, "", "", 96⟩ := by rw [← Array.getElem?_toList, hfs]; rfl
 have g8 : (Try.prog.fieldsOf 86)[8]? = some ⟨ "Num", 24, 56, false, "", "", 104⟩ := by rw [← Array.getElem?_toList, hfs]; rfl
 have hn : xs.length = 9 := by rw [hlen, ← Array.length_toList, hfs]; rfl
 match xs, hn with
 | [y0, y1, y2, y3, y4, y5, y6, y7, y8], _ =>
  have f0 : DataW.trod enc Try.prog W 0 (fun _ => true) true k 3 ((cs.drop 0).take (Try.prog.cellsOf 3)) = some y0 := hf 0 _ g0
  rw [Try.cells3] at f0
  obtain ⟨m0, e0, _, w0⟩ := DataW.trod_int Try.underlying3 f0
  have f1 : DataW.trod enc Try.prog W 0 (fun _ => true) true k 32 ((cs.drop 1).take (Try.prog.cellsOf 32)) = some y1 := hf 1 _ g1
  rw [Try.cells32] at f1
  obtain ⟨d1, n1, e1⟩ := open_row Try.underlying32 Try.underlying5 Try.cells5 Try.cells32 f1
  have f2 : DataW.trod enc Try.prog W 0 (fun _ => true) true k 34 ((cs.drop 5).take (Try.prog.cellsOf 34)) = some y2 := hf 2 _ g2
  rw [Try.cells34] at f2
  obtain ⟨d2, n2, e2⟩ := open_row Try.underlying34 Try.underlying5 Try.cells5 Try.cells34 f2
  have f3 : DataW.trod enc Try.prog W 0 (fun _ => true) true k 25 ((cs.drop 21).take (Try.prog.cellsOf 25)) = some y3 := hf 3 _ g3
  rw [Try.cells25] at f3
  obtain ⟨p3, e3, in3, ln3⟩ := open_bytes f3
  have f4 : DataW.trod enc Try.prog W 0 (fun _ => true) true k 3 ((cs.drop 22).take (Try.prog.cellsOf 3)) = some y4 := hf 4 _ g4
  rw [Try.cells3] at f4
  obtain ⟨m4, e4, _, w4⟩ := DataW.trod_int Try.underlying3 f4
  have f5 : DataW.trod enc Try.prog W 0 (fun _ => true) true k 34 ((cs.drop 23).take (Try.prog.cellsOf 34)) = some y5 := hf 5 _ g5
  rw [Try.cells34] at f5
  obtain ⟨d5, n5, e5⟩ := open_row Try.underlying34 Try.underlying5 Try.cells5 Try.cells34 f5
  have f6 : DataW.trod enc Try.prog W 0 (fun _ => true) true k 34 ((cs.drop 39).take (Try.prog.cellsOf 34)) = some y6 := hf 6 _ g6
  rw [Try.cells34] at f6
  obtain ⟨d6, n6, e6⟩ := open_row Try.underlying34 Try.underlying5 Try.cells5 Try.cells34 f6
  have f7 : DataW.trod enc Try.prog W 0 (fun _ => true) true k 3 ((cs.drop 55).take (Try.prog.cellsOf 3)) = some y7 := hf 7 _ g7
  rw [Try.cells3] at f7
  obtain ⟨m7, e7, _, w7⟩ := DataW.trod_int Try.underlying3 f7
  have f8 : DataW.trod enc Try.prog W 0 (fun _ => true) true k 24 ((cs.drop 56).take (Try.prog.cellsOf 24)) = some y8 := hf 8 _ g8
  rw [Try.cells24] at f8
  obtain ⟨m8, e8, _, w8⟩ := DataW.trod_int Try.underlying24 f8
  have hcs : cs = (cs.drop 0).take 1 ++ ((cs.drop 1).take 4 ++ ((cs.drop 5).take 16 ++ ((cs.drop 21).take 1 ++ ((cs.drop 22).take 1 ++ ((cs.drop 23).take 16 ++ ((cs.drop 39).take 16 ++ ((cs.drop 55).take 1 ++ ((cs.drop 56).take 1)))))))) := by
   have s0 : cs.drop 0 = (cs.drop 0).take 1 ++ cs.drop 1 := (seg_drop cs 0 1)
   have s1 : cs.drop 1 = (cs.drop 1).take 4 ++ cs.drop 5 := (seg_drop cs 1 4)
   have s2 : cs.drop 5 = (cs.drop 5).take 16 ++ cs.drop 21 := (seg_drop cs 5 16)
   have s3 : cs.drop 21 = (cs.drop 21).take 1 ++ cs.drop 22 := (seg_drop cs 21 1)
   have s4 : cs.drop 22 = (cs.drop 22).take 1 ++ cs.drop 23 := (seg_drop cs 22 1)
   have s5 : cs.drop 23 = (cs.drop 23).take 16 ++ cs.drop 39 := (seg_drop cs 23 16)
   have s6 : cs.drop 39 = (cs.drop 39).take 16 ++ cs.drop 55 := (seg_drop cs 39 16)
   have s7 : cs.drop 55 = (cs.drop 55).take 1 ++ cs.drop 56 := (seg_drop cs 55 1)
   have s8 : cs.drop 56 = (cs.drop 56).take 1 := (List.take_of_length_le (by rw [List.length_drop, hl]; exact Nat.le_refl _)).symm
   conv => lhs; rw [show cs = cs.drop 0 from rfl]
   conv => lhs; rw [s0]
   conv => lhs; rhs; rw [s1]
   conv => lhs; rhs; rhs; rw [s2]
   conv => lhs; rhs; rhs; rhs; rw [s3]
   conv => lhs; rhs; rhs; rhs; rhs; rw [s4]
   conv => lhs; rhs; rhs; rhs; rhs; rhs; rw [s5]
   conv => lhs; rhs; rhs; rhs; rhs; rhs; rhs; rw [s6]
   conv => lhs; rhs; rhs; rhs; rhs; rhs; rhs; rhs; rw [s7]
   conv => lhs; rhs; rhs; rhs; rhs; rhs; rhs; rhs; rhs; rw [s8]
  rw [e0, e1, e2, e3, e4, e5, e6, e7, e8] at hcs
  exact ⟨⟨m0, d1, d2, p3, m4, d5, d6, m7, m8⟩, hcs.trans (by simp [Qt.C]), ⟨⟨(wf_i64 w0).1, (wf_i64 w0).2, n1, n2, (wf_i64 w4).1, (wf_i64 w4).2, n5, n6, (wf_i64 w7).1, (wf_i64 w7).2, (wf_u64 w8).1, (wf_u64 w8).2⟩, in3⟩⟩
theorem Try.cells149 : Try.prog.cellsOf 149 = 68 := by kernel_rfl
def fields149 : List Field := [⟨ "Member", 3, 0, false, "", "", 0⟩, ⟨ "Request", 86, 1, false, "", "", 8⟩, ⟨ "Reply", 83, 58, false, "", "", 120⟩]
theorem fields149_is : (Try.prog.fieldsOf 149).toList = fields149 := by
 unfold Program.fieldsOf
 rw [Try.underlying149]
 rfl
theorem under149 : Try.prog.underlying 149 = some (.struct (Try.prog.fieldsOf 149)) := by
 unfold Program.fieldsOf; rw [Try.underlying149]
set_option maxRecDepth 100000 in
theorem dt_cells {H : Type} {enc : TypeId × Value → H} {W : World} {n : Nat} {cs : List Value} {x : DataW H × List MemPlace} (hl : cs.length = 68) (h : DataW.trod enc Try.prog W 0 (fun _ => true) true n 149 cs = some x) :
  ∃ z : Dt, cs = z.C ∧ DI9 W z := by
 obtain ⟨xs, k, _, _, _, hlen, hf⟩ := DataW.trod_struct under149 h
 have hfs : (Try.prog.fieldsOf 149).toList = fields149 := fields149_is
 have g0 : (Try.prog.fieldsOf 149)[0]? = some ⟨ "Member", 3, 0, false, "", "", 0⟩ := by rw [← Array.getElem?_toList, hfs]; rfl
 have g1 : (Try.prog.fieldsOf 149)[1]? = some ⟨ "Request", 86, 1, false, "", "", 8⟩ := by rw [← Array.getElem?_toList, hfs]; rfl
 have g2 : (Try.prog.fieldsOf 149)[2]? = some ⟨ "Reply", 83, 58, false, "", "", 120⟩ := by rw [← Array.getElem?_toList, hfs]; rfl
 have hn : xs.length = 3 := by rw [hlen, ← Array.length_toList, hfs]; rfl
 match xs, hn with
 | [y0, y1, y2], _ =>
  have f0 : DataW.trod enc Try.prog W 0 (fun _ => true) true k 3 ((cs.drop 0).take (Try.prog.cellsOf 3)) = some y0 := hf 0 _ g0
  rw [Try.cells3] at f0
  obtain ⟨m0, e0, _, w0⟩ := DataW.trod_int Try.underlying3 f0
  have f1 : DataW.trod enc Try.prog W 0 (fun _ => true) true k 86 ((cs.drop 1).take (Try.prog.cellsOf 86)) = some y1 := hf 1 _ g1
  rw [Try.cells86] at f1
  obtain ⟨z1, e1, i1⟩ := qt_cells (by rw [List.length_take, List.length_drop, hl]; rfl) f1
  have f2 : DataW.trod enc Try.prog W 0 (fun _ => true) true k 83 ((cs.drop 58).take (Try.prog.cellsOf 83)) = some y2 := hf 2 _ g2
  rw [Try.cells83] at f2
  obtain ⟨z2, e2, i2⟩ := rt_cells (by rw [List.length_take, List.length_drop, hl]; rfl) f2
  have hcs : cs = (cs.drop 0).take 1 ++ ((cs.drop 1).take 57 ++ ((cs.drop 58).take 10)) := by
   have s0 : cs.drop 0 = (cs.drop 0).take 1 ++ cs.drop 1 := (seg_drop cs 0 1)
   have s1 : cs.drop 1 = (cs.drop 1).take 57 ++ cs.drop 58 := (seg_drop cs 1 57)
   have s2 : cs.drop 58 = (cs.drop 58).take 10 := (List.take_of_length_le (by rw [List.length_drop, hl]; exact Nat.le_refl _)).symm
   conv => lhs; rw [show cs = cs.drop 0 from rfl]
   conv => lhs; rw [s0]
   conv => lhs; rhs; rw [s1]
   conv => lhs; rhs; rhs; rw [s2]
  rw [e0, e1, e2] at hcs
  exact ⟨⟨m0, z1, z2⟩, hcs.trans (by simp [Dt.C]), ⟨i1, i2⟩⟩
def DpRow (W : World) (v : Value) : Prop := ∃ (ad : Option Addr) (cap : Nat) (l : List Dt), v = .slice ad l.length cap ∧ Dp.In ad cap l W ∧ l.length ≤ 9223372036854775807
set_option maxRecDepth 100000 in
theorem open_dts {H : Type} (enc : TypeId × Value → H) (W : World) (v : Value) {d : DataW H} {ps : List MemPlace} (base : Nat) (hval : Value.okWide Try.prog W .any base 96 v) (h : DataW.Trod enc Try.prog W 0 (fun _ => true) true 96 v d ps) : DpRow W v := by
 obtain ⟨a1, len1, cap1, rfl⟩ := okWide_slice Try.underlying96 hval
 obtain ⟨fuel, hf⟩ := h
 rcases open_slice Try.underlying96 hf with ⟨hcs, hx⟩ | ⟨a, len, cap, m, n, D, Pl, hcs, hb, hl, hm, hmm, hx, hi⟩
 ·simp [Value.cells] at hcs
  obtain ⟨rfl, rfl, rfl⟩ := hcs
  exact ⟨none, 0, [], rfl, ⟨Nat.le_refl _, fun _ => rfl, fun i x hx => by simp at hx, fun h => absurd h (Nat.lt_irrefl 0)⟩, Nat.zero_le _⟩
 simp [Value.cells] at hcs
 obtain ⟨rfl, rfl, rfl⟩ := hcs
 simp only [if_true] at hmm
 have key : ∀ i : Fin len1, ∃ z : Dt, DI9 W z ∧ ∀ (j : Nat) (u : Value), z.C[j]? = some u → W.cell? ((a.add (i.1 * 68)).add j) = some u := fun i => by
  obtain ⟨cs', hc, ht'⟩ := hi i.1 (by have := i.2; omega)
  rw [Try.cells149] at hc
  obtain ⟨_, hcl, hat⟩ := World.cells?_some hc
  obtain ⟨z, z1, z3⟩ := dt_cells hcl ht'
  refine ⟨z, z3, fun j u hu => ?_⟩
  have hj : j < 68 := by rw [← z1] at hu; have := (List.getElem?_eq_some_iff.1 hu).1; omega
  rw [hat j hj, z1]; exact hu
 obtain ⟨f, hff⟩ := Classical.axiomOfChoice key
 have hget : ∀ (i : Nat) (x : Dt), (List.ofFn f)[i]? = some x → ∃ hi : i < len1, x = f ⟨i, hi⟩ := fun i x hx => by
  have hlt : i < len1 := by have := (List.getElem?_eq_some_iff.1 hx).1; simpa using this
  refine ⟨hlt, ?_⟩
  rw [List.getElem?_ofFn, dif_pos hlt] at hx
  exact (Option.some.inj hx).symm
 refine ⟨some a, cap1, List.ofFn f, by simp, ⟨by simpa using hl, (fun h => by cases h), fun i x hx => ?_, fun h0 => ?_⟩, by have := Nat.le_trans hl hm; unfold maxLen at this; simpa using this⟩
 ·obtain ⟨h1, rfl⟩ := hget i x hx
  exact (hff ⟨i, h1⟩).1
 have hpos : 0 < len1 := by rwa [List.length_ofFn] at h0
 obtain ⟨ab, ao, spot⟩ := a
 have hc0 := (hff ⟨0, hpos⟩).2 0 _ rfl
 have hspot : spot = none := by simpa [Addr.add] using World.cell?_spot hc0
 subst hspot
 refine ⟨ab, ao, rfl, by have := World.block_lt_of_cell? W _ hc0; simpa [Addr.add] using this, fun i x hx => ?_⟩
 obtain ⟨h1, rfl⟩ := hget i x hx
 intro j u hu
 have z1 := (hff ⟨i, h1⟩).2 j u hu
 rw [Addr.add_lit, Addr.add_lit] at z1
 exact z1
theorem Try.cells94 : Try.prog.cellsOf 94 = 9 := by kernel_rfl
def fields94 : List Field := [⟨ "Q", 76, 0, false, "", "", 0⟩, ⟨ "Turn", 3, 8, false, "", "", 80⟩]
theorem fields94_is : (Try.prog.fieldsOf 94).toList = fields94 := by
 unfold Program.fieldsOf
 rw [Try.underlying94]
 rfl
theorem under94 : Try.prog.underlying 94 = some (.struct (Try.prog.fieldsOf 94)) := by
 unfold Program.fieldsOf; rw [Try.underlying94]
set_option maxRecDepth 100000 in
theorem dw_cells {H : Type} {enc : TypeId × Value → H} {W : World} {n : Nat} {cs : List Value} {x : DataW H × List MemPlace} (hl : cs.length = 9) (h : DataW.trod enc Try.prog W 0 (fun _ => true) true n 94 cs = some x) :
  ∃ z : Dw, cs = z.C ∧ z.In W := by
 obtain ⟨xs, k, _, _, _, hlen, hf⟩ := DataW.trod_struct under94 h
 have hfs : (Try.prog.fieldsOf 94).toList = fields94 := fields94_is
 have g0 : (Try.prog.fieldsOf 94)[0]? = some ⟨ "Q", 76, 0, false, "", "", 0⟩ := by rw [← Array.getElem?_toList, hfs]; rfl
 have g1 : (Try.prog.fieldsOf 94)[1]? = some ⟨ "Turn", 3, 8, false, "", "", 80⟩ := by rw [← Array.getElem?_toList, hfs]; rfl
 have hn : xs.length = 2 := by rw [hlen, ← Array.length_toList, hfs]; rfl
 match xs, hn with
 | [y0, y1], _ =>
  have f0 : DataW.trod enc Try.prog W 0 (fun _ => true) true k 76 ((cs.drop 0).take (Try.prog.cellsOf 76)) = some y0 := hf 0 _ g0
  rw [Try.cells76] at f0
  obtain ⟨z0, e0, i0⟩ := kq_cells (by rw [List.length_take, List.length_drop, hl]; rfl) f0
  have f1 : DataW.trod enc Try.prog W 0 (fun _ => true) true k 3 ((cs.drop 8).take (Try.prog.cellsOf 3)) = some y1 := hf 1 _ g1
  rw [Try.cells3] at f1
  obtain ⟨m1, e1, _, w1⟩ := DataW.trod_int Try.underlying3 f1
  have hcs : cs = (cs.drop 0).take 8 ++ ((cs.drop 8).take 1) := by
   have s0 : cs.drop 0 = (cs.drop 0).take 8 ++ cs.drop 8 := (seg_drop cs 0 8)
   have s1 : cs.drop 8 = (cs.drop 8).take 1 := (List.take_of_length_le (by rw [List.length_drop, hl]; exact Nat.le_refl _)).symm
   conv => lhs; rw [show cs = cs.drop 0 from rfl]
   conv => lhs; rw [s0]
   conv => lhs; rhs; rw [s1]
  rw [e0, e1] at hcs
  exact ⟨⟨z0, m1⟩, hcs.trans (by simp [Dw.C]), ⟨i0, wf_i64 w1⟩⟩
def DwpRow (W : World) (v : Value) : Prop := ∃ (ad : Option Addr) (cap : Nat) (l : List Dw), v = .slice ad l.length cap ∧ Dwp.In ad cap l W ∧ l.length ≤ 9223372036854775807
set_option maxRecDepth 100000 in
theorem open_dws {H : Type} (enc : TypeId × Value → H) (W : World) (v : Value) {d : DataW H} {ps : List MemPlace} (base : Nat) (hval : Value.okWide Try.prog W .any base 92 v) (h : DataW.Trod enc Try.prog W 0 (fun _ => true) true 92 v d ps) : DwpRow W v := by
 obtain ⟨a1, len1, cap1, rfl⟩ := okWide_slice Try.underlying92 hval
 obtain ⟨fuel, hf⟩ := h
 rcases open_slice Try.underlying92 hf with ⟨hcs, hx⟩ | ⟨a, len, cap, m, n, D, Pl, hcs, hb, hl, hm, hmm, hx, hi⟩
 ·simp [Value.cells] at hcs
  obtain ⟨rfl, rfl, rfl⟩ := hcs
  exact ⟨none, 0, [], rfl, ⟨Nat.le_refl _, fun _ => rfl, fun i x hx => by simp at hx, fun h => absurd h (Nat.lt_irrefl 0)⟩, Nat.zero_le _⟩
 simp [Value.cells] at hcs
 obtain ⟨rfl, rfl, rfl⟩ := hcs
 simp only [if_true] at hmm
 have key : ∀ i : Fin len1, ∃ z : Dw, z.In W ∧ ∀ (j : Nat) (u : Value), z.C[j]? = some u → W.cell? ((a.add (i.1 * 9)).add j) = some u := fun i => by
  obtain ⟨cs', hc, ht'⟩ := hi i.1 (by have := i.2; omega)
  rw [Try.cells94] at hc
  obtain ⟨_, hcl, hat⟩ := World.cells?_some hc
  obtain ⟨z, z1, z3⟩ := dw_cells hcl ht'
  refine ⟨z, z3, fun j u hu => ?_⟩
  have hj : j < 9 := by rw [← z1] at hu; have := (List.getElem?_eq_some_iff.1 hu).1; omega
  rw [hat j hj, z1]; exact hu
 obtain ⟨f, hff⟩ := Classical.axiomOfChoice key
 have hget : ∀ (i : Nat) (x : Dw), (List.ofFn f)[i]? = some x → ∃ hi : i < len1, x = f ⟨i, hi⟩ := fun i x hx => by
  have hlt : i < len1 := by have := (List.getElem?_eq_some_iff.1 hx).1; simpa using this
  refine ⟨hlt, ?_⟩
  rw [List.getElem?_ofFn, dif_pos hlt] at hx
  exact (Option.some.inj hx).symm
 refine ⟨some a, cap1, List.ofFn f, by simp, ⟨by simpa using hl, (fun h => by cases h), fun i x hx => ?_, fun h0 => ?_⟩, by have := Nat.le_trans hl hm; unfold maxLen at this; simpa using this⟩
 ·obtain ⟨h1, rfl⟩ := hget i x hx
  exact (hff ⟨i, h1⟩).1
 have hpos : 0 < len1 := by rwa [List.length_ofFn] at h0
 obtain ⟨ab, ao, spot⟩ := a
 have hc0 := (hff ⟨0, hpos⟩).2 0 _ rfl
 have hspot : spot = none := by simpa [Addr.add] using World.cell?_spot hc0
 subst hspot
 refine ⟨ab, ao, rfl, by have := World.block_lt_of_cell? W _ hc0; simpa [Addr.add] using this, fun i x hx => ?_⟩
 obtain ⟨h1, rfl⟩ := hget i x hx
 intro j u hu
 have z1 := (hff ⟨i, h1⟩).2 j u hu
 rw [Addr.add_lit, Addr.add_lit] at z1
 exact z1
end Go.Proofs.Ytmjfnpmnhehnkaa
namespace Go.Proofs.Ytmjfnpmnhehnkaa
open Go.RowKit
theorem Try.slDS : Try.prog.underlying 96 = some (.slice (Try.prog.elem 96)) := by kernel_rfl
theorem Try.szDS (w : World) : (sizeOf (Try.prog.elem 96)).run Try.prog w = .ok 68 w := by kernel_rfl
def DR9 (m : Nat) (w : World) (v : Value) (l : List Dt) : Prop := l.length ≤ m ∧ ∃ ad cap, v = .slice ad l.length cap ∧ Dp.In ad cap l w
theorem DR9.ext {m : Nat} {w w' : World} {v : Value} {l : List Dt} (h : DR9 m w v l) (k : Ex w w') : DR9 m w' v l := by
 obtain ⟨h1, ad, cap, h2, h3⟩ := h
 exact ⟨h1, ad, cap, h2, h3.ext k⟩
def RR9 (m : Nat) (w : World) (v : Value) (l : List Rt) : Prop := l.length ≤ m ∧ ∃ ad cap, v = .slice ad l.length cap ∧ Rp.In ad cap l w
theorem RR9.ext {m : Nat} {w w' : World} {v : Value} {l : List Rt} (h : RR9 m w v l) (k : Ex w w') : RR9 m w' v l := by
 obtain ⟨h1, ad, cap, h2, h3⟩ := h
 exact ⟨h1, ad, cap, h2, h3.ext k⟩
theorem Dp.In.okl {ad : Option Addr} {cap : Nat} {l : List Dt} {w : World} (h : Dp.In ad cap l w) : ∀ x ∈ l, x.C.length = 68 := fun x hx => by
 obtain ⟨i, hi, e⟩ := List.getElem_of_mem hx
 have h1 := h.ins i x (by rw [List.getElem?_eq_getElem hi, e])
 exact Dt.len h1.q.ok h1.r.ok
theorem Dp.In.rd {ad : Option Addr} {cap : Nat} {l : List Dt} {w : World} (h : Dp.In ad cap l w) : Rd w ad l.length 68 (l.flatMap Dt.C) := gflat_rd Dt.C 68 (by decide) h.okl h.read
theorem Dp.of_own {w : World} {B : Nat} {v : Value} {l : List Dt} {n : Nat} (hn : n = l.length) (h : w.ownsRow B 149 68 v n (l.flatMap Dt.C)) (hi : ∀ x ∈ l, DI9 w x) : ∃ ad cap, v = .slice ad l.length cap ∧ Dp.In ad cap l w := by
 subst hn
 obtain ⟨ad, cap, e, hnil, hc, _, hr⟩ := own_rd h
 have H : ∀ x ∈ l, x.C.length = 68 := fun x hx => Dt.len (hi x hx).q.ok (hi x hx).r.ok
 exact ⟨ad, cap, e, hc, hnil, fun i x hx => hi x (List.mem_of_getElem? hx), gflat_back Dt.C 68 H hr⟩
theorem Emp.ext {gz : Nat} {e : TypeId} {w w' : World} {v : Value} (h : Emp gz w e v) (k : Ex w w') : Emp gz w' e v := by
 obtain ⟨g, h1, h2, h3⟩ := h
 exact ⟨g, h1, h2, h3.ext k⟩
set_option maxHeartbeats 8000000 in
set_option maxRecDepth 100000 in
theorem tells25_any (ad : Option Addr) (cap : Nat) (l : List Dw) (ad2 : Option Addr) (cap2 : Nat) (r9 : List Dt) (ad3 : Option Addr) (cap3 : Nat) (s9 : List Rt) (w : World) (hL : l.length ≤ 9223372036854775807) (hL2 : r9.length ≤ 9223372036854775807) (hL3 : s9.length ≤ 9223372036854775807) (hin : Dwp.In ad cap l w) (hin2 : Dp.In ad2 cap2 r9 w) (hin3 : Rp.In ad3 cap3 s9 w) : Calls Try.prog 13 #[.slice ad l.length cap, .slice ad2 r9.length cap2, .slice ad3 s9.length cap3] w fun e w' => e = .returned (.bool true) ∧ Ex w w' := by
 obtain ⟨n, hn⟩ : ∃ n, n = r9.length := ⟨_, rfl⟩
 obtain ⟨m, hm⟩ : ∃ n, n = s9.length := ⟨_, rfl⟩
 rw [show (Value.slice ad2 r9.length cap2) = .slice ad2 n cap2 by rw [hn], show (Value.slice ad3 s9.length cap3) = .slice ad3 m cap3 by rw [hm]]
 rw [← hn] at hL2
 rw [← hm] at hL3
 have HN := Hi hn
 have HM := Hi hm
 have HL := Hi (And.intro hin hL)
 have HA := Hi hin2
 have HB := Hi hin3
 clear hn hm hin hin2 hin3 hL
 obtain ⟨vl, hvl⟩ : ∃ v, v = Value.slice ad l.length cap := ⟨_, rfl⟩
 rw [← hvl]
 have HVL := Hi hvl
 clear hvl
 go_enter Try.func13, Try.ntmps13
 go_upto_if 10 with fail
 have BX := Hi (Ex.refl w)
 go_cut [1] (fun s0 wd => ∃ l : List Dt, Hid (DR9 6 wd s0 l) ∧ Hid (Ex w wd))
 case first =>
  by_cases h20 : 6 < n
  ·have q20 : (6 : Int) < (n : Int) := by omega
   have hcap : 6 ≤ cap2 := by have := HA.out.len; have := HN.out; omega
   go_wp2_with (with_reducible refine stop_slice ?_)
   refine at9 (by go_simp) fun K0 hK => wp_sl_h 96 _ _ rfl Try.slDS 68 Try.szDS ad2 n cap2 6 rfl rfl hcap (hK _ _ ?_)
   clear hK
   rw [sliced_z9]
   go_wp2_with fail
   go_meet
   case rel => exact ⟨r9.take 6, Hi ⟨by rw [List.length_take]; exact Nat.min_le_left _ _, ad2, cap2, by rw [List.length_take, ← HN.out, Nat.min_eq_left (by omega)], HA.out.take 6⟩, BX⟩
  have q20 : ¬ (6 : Int) < (n : Int) := by omega
  go_wp2_with fail
  go_meet
  case rel => exact ⟨r9, Hi ⟨by rw [← HN.out]; omega, ad2, cap2, by rw [← HN.out], HA.out⟩, BX⟩
 clear HA BX
 obtain ⟨A, HA, BX⟩ := hcut
 replace HB := Hi (HB.out.ext BX.out)
 go_upto_if 15 with fail
 have BZ := Hi (Ex.refl wc)
 go_cut [2] (fun s0 wd => ∃ l : List Rt, Hid (RR9 12 wd s0 l) ∧ Hid (Ex wc wd))
 case first =>
  by_cases h20 : 12 < m
  ·have q20 : (12 : Int) < (m : Int) := by omega
   have hcap : 12 ≤ cap3 := by have := HB.out.len; have := HM.out; omega
   go_wp2_with (with_reducible refine stop_slice ?_)
   refine at9 (by go_simp) fun K0 hK => wp_sl_h 98 _ _ rfl Try.sl98 10 Try.sz98 ad3 m cap3 12 rfl rfl hcap (hK _ _ ?_)
   clear hK
   rw [sliced_z9]
   go_wp2_with fail
   go_meet
   case rel => exact ⟨s9.take 12, Hi ⟨by rw [List.length_take]; exact Nat.min_le_left _ _, ad3, cap3, by rw [List.length_take, ← HM.out, Nat.min_eq_left (by omega)], HB.out.take 12⟩, BZ⟩
  have q20 : ¬ (12 : Int) < (m : Int) := by omega
  go_wp2_with fail
  go_meet
  case rel => exact ⟨s9, Hi ⟨by rw [← HM.out]; omega, ad3, cap3, by rw [← HM.out], HB.out⟩, BZ⟩
 clear HB BZ
 obtain ⟨Bl, HB, BZ⟩ := hcut
 replace HA := Hi (HA.out.ext BZ.out)
 replace BX := Hi (Ex.trans BX.out BZ.out)
 clear BZ HN HM
 have C0 : Hid (Calls Try.prog 44 #[vl, .int .i64 40] wc fun e w' => ∃ v ds, e = .returned v ∧ DRow w' wc.heap.size v ds ∧ ds.length ≤ 40 ∧ Ex wc w') := Hi (by rw [HVL.out]; exact made_any ad cap l wc HL.out.2 (HL.out.1.ext BX.out))
 go_wp2_with fail
 refine C0.out.mono ?_
 rintro e wz ⟨v7, M, rfl, hrow, hM40, xz⟩
 have HRW := Hi hrow
 replace HA := Hi (HA.out.ext xz)
 replace HB := Hi (HB.out.ext xz)
 replace BX := Hi (Ex.trans BX.out xz)
 clear C0 hrow xz HVL HL
 go_wp2_with fail
 obtain ⟨adm, capm, e7, hmin⟩ := HRW.out.inn
 subst e7
 obtain ⟨hA6, ada, capa, e0, hAin⟩ := HA.out
 subst e0
 obtain ⟨hB12, adb, capb, e0, hBin⟩ := HB.out
 subst e0
 have HMI := Hi hmin
 have HAI := Hi hAin
 have HBI := Hi hBin
 obtain ⟨nm, hnm⟩ : ∃ n, n = M.length := ⟨_, rfl⟩
 obtain ⟨na, hna⟩ : ∃ n, n = A.length := ⟨_, rfl⟩
 obtain ⟨nb, hnb⟩ : ∃ n, n = Bl.length := ⟨_, rfl⟩
 rw [← hnm] at hM40 ⊢
 rw [← hna] at hA6 ⊢
 rw [← hnb] at hB12 ⊢
 have HNM := Hi hnm
 have HNA := Hi hna
 have HNB := Hi hnb
 clear hnm hna hnb hmin hAin hBin HRW HA HB
 have C1 := Hi (fun w1 k => same25 adm capm M w1 (by rw [← HNM.out]; omega) (HMI.out.ext (k : Ex wz w1)))
 have C2 := Hi (fun w1 k => same25 ada capa A w1 (by rw [← HNA.out]; omega) (HAI.out.ext (k : Ex wz w1)))
 have C3 := Hi (fun w1 k => replies25 adb capb Bl w1 (by rw [← HNB.out]; omega) (HBI.out.ext (k : Ex wz w1)))
 rw [← HNM.out] at C1
 rw [← HNA.out] at C2
 rw [← HNB.out] at C3
 obtain ⟨gz, hgz⟩ : ∃ g, g = wz.heap.size := ⟨_, rfl⟩
 have HGZ := Hi hgz
 clear hgz
 have XZ := Hi (Ex.refl wz)
 go_wp2_with (first | (with_reducible refine stop_app ?_) | (with_reducible refine stop_bs ?_))
 refine (C1.out wz XZ.out).mono ?_
 rintro e w1 ⟨rfl, x1⟩
 replace XZ := Hi (Ex.trans XZ.out x1)
 clear x1
 go_wp2_with (first | (with_reducible refine stop_app ?_) | (with_reducible refine stop_bs ?_))
 refine (C2.out w1 XZ.out).mono ?_
 rintro e w2 ⟨rfl, x1⟩
 replace XZ := Hi (Ex.trans XZ.out x1)
 clear x1
 go_wp2_with (first | (with_reducible refine stop_app ?_) | (with_reducible refine stop_bs ?_))
 (with_reducible refine ⟨?_⟩)
 go_wp2_with (with_reducible refine stop_app ?_)
 (with_reducible refine ⟨?_⟩)
 change wpList _ _ _ _ _ (w2.alloc (.cells #[] 149))
 have HEM : Hid (Emp gz (w2.alloc (.cells #[] 149)) 149 (.slice (some ⟨w2.heap.size, 0, none⟩) 0 0)) := Hi ⟨w2.heap.size, rfl, by rw [HGZ.out]; exact Below.size XZ.out, Bk.new rfl _ _⟩
 have xa : Ex w2 (w2.alloc (.cells #[] 149)) := Ex.alloc _ _
 replace XZ := Hi (Ex.trans XZ.out xa)
 generalize hw3 : (w2.alloc (.cells #[] 149)) = w3 at *
 generalize w2.heap.size = ge at *
 clear hw3 xa
 (with_reducible refine at_any ?_ ?_); (focus go_simp); refine fun K0 hK => wp_rd0 _ _ 96 149 _ 68 192 rfl Try.underlying96 Try.infoDt (by rfl) (by decide) gz _ rfl HEM.out (by rw [HGZ.out]; exact Below.size XZ.out) adm nm capm (M.flatMap Dt.C) rfl (by rw [HNM.out]; exact (HMI.out.ext XZ.out).rd) (by rw [HNM.out]; exact HMI.out.len) HMI.out.nil (gflat_one Dt.C fun x _ => x.C_one) (by omega) (by omega) (fun v5 w5 r1 r2 => hK _ _ ?_)
 clear hK
 have R5 := Hi r1
 replace XZ := Hi (Ex.trans XZ.out r2)
 clear r1 r2 HEM
 go_wp2_with (with_reducible refine stop_app ?_)
 refine at9 (by go_simp) fun K0 hK => wp_gapp _ _ 96 149 _ 68 192 rfl Try.underlying96 Try.infoDt (by rfl) (by decide) gz nm _ _ rfl R5.out (by rw [HGZ.out]; exact Below.size XZ.out) ada na capa (A.flatMap Dt.C) rfl (by rw [HNA.out]; exact (HAI.out.ext XZ.out).rd) (by rw [HNA.out]; exact HAI.out.len) HAI.out.nil (gflat_one Dt.C fun x _ => x.C_one) (by omega) (by omega) (fun v6 w6 r1 r2 _ => hK _ _ ?_)
 clear hK
 have x6 : Ex wz w6 := own_grown XZ.out R5.out (by rw [HGZ.out]; exact Nat.le_refl _) r2
 have X6 := Hi x6
 have hri : ∀ x ∈ M ++ A, DI9 w6 x := fun x hx => by
  rcases List.mem_append.1 hx with h | h
  ·obtain ⟨i, hi, e⟩ := List.getElem_of_mem h
   exact (HMI.out.ext x6).ins i x (by rw [List.getElem?_eq_getElem hi, e])
  ·obtain ⟨i, hi, e⟩ := List.getElem_of_mem h
   exact (HAI.out.ext x6).ins i x (by rw [List.getElem?_eq_getElem hi, e])
 obtain ⟨adz, capz, rfl, hz⟩ := Dp.of_own (l := M ++ A) (n := nm + na) (by rw [List.length_append, ← HNM.out, ← HNA.out]) (by rw [List.flatMap_append]; exact r1) hri
 have C4 := Hi (same25 adz capz (M ++ A) w6 (by rw [List.length_append, ← HNM.out, ← HNA.out]; omega) hz)
 obtain ⟨nz, hnz⟩ : ∃ n, n = (M ++ A).length := ⟨_, rfl⟩
 rw [← hnz] at C4 ⊢
 clear hnz hz hri r1 r2 x6 R5 XZ
 go_wp2_with fail
 refine C4.out.mono ?_
 rintro e w7 ⟨rfl, x1⟩
 have XZ := Hi (Ex.trans X6.out x1)
 clear x1 C4 X6
 go_wp2_with fail
 refine (C3.out w7 XZ.out).mono ?_
 rintro e w8 ⟨rfl, x1⟩
 replace XZ := Hi (Ex.trans XZ.out x1)
 clear x1
 go_wp2_with fail
 refine (known25 w8).mono ?_
 rintro e w9 ⟨rfl, x1⟩
 replace XZ := Hi (Ex.trans XZ.out x1)
 clear x1
 have X9 := Hi (Ex.trans BX.out XZ.out)
 go_wp2_with fail
 go_ret
 exact ⟨rfl, X9.out⟩
theorem tells25_law (v1 v2 v3 : Value) (w : World) (h1 : DwpRow w v1) (h2 : DpRow w v2) (h3 : RpRow w v3) : Calls Try.prog 13 #[v1, v2, v3] w fun e w' => e = .returned (.bool true) ∧ Below w.heap.size w w' := by
 obtain ⟨ad, cap, l, rfl, hin, hl⟩ := h1
 obtain ⟨ad2, cap2, r, rfl, hin2, hl2⟩ := h2
 obtain ⟨ad3, cap3, s, rfl, hin3, hl3⟩ := h3
 exact tells25_any ad cap l ad2 cap2 r ad3 cap3 s w hl hl2 hl3 hin hin2 hin3
end Go.Proofs.Ytmjfnpmnhehnkaa
