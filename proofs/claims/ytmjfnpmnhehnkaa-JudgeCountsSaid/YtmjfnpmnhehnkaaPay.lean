/- Vmf, Jl, Jm -/
import Derived.Test.YtmjfnpmnhehnkaaPax
import Derived.ChangeSlices
import Derived.Deep.Slices
import Derived.Deep.Fields
import Derived.OpenShut
namespace Go.Proofs.Ytmjfnpmnhehnkaa
open Go.ChangeShapes Go.WideShapes Go.ChangeAt Go.RowKit Go.Deep
set_option maxRecDepth 100000 in
theorem open_bytes {H : Type} {enc : TypeId × Value → H} {W : World} {n : Nat} {cs : List Value} {x : DataW H × List MemPlace} (h : DataW.trod enc Try.prog W 0 (fun _ => true) true n 25 cs = some x) :
  ∃ p : Pt, cs = [p.V] ∧ p.In W W.heap.size ∧ p.l.length ≤ 9223372036854775807 := by
 rcases open_ints Try.underlying25 Try.underlying5 Try.cells5 h with ⟨hcs, hx⟩ | ⟨a, len, cap, zs, hcs, _, hl, hm, hz, hx, hcell, hwz⟩
 ·exact ⟨⟨none, 0, []⟩, hcs, ⟨Nat.le_refl _, fun _ => rfl, fun h => absurd h (Nat.lt_irrefl 0)⟩, Nat.zero_le _⟩
 simp only [if_true] at hz
 have hlen : ((zs.take len).map fun n => UInt8.ofNat n.toNat).length = len := by simp; omega
 refine ⟨⟨some a, cap, (zs.take len).map fun n => UInt8.ofNat n.toNat⟩, by rw [hcs]; unfold Pt.V; simp only [hlen], ⟨by simp only [hlen]; exact hl, (fun h => by cases h), fun h0 => ?_⟩, by simp only [hlen]; unfold maxLen at hm; omega⟩
 simp only [hlen] at h0 ⊢
 obtain ⟨ab, ao, spot⟩ := a
 have hspot : spot = none := by simpa [Addr.add] using World.cell?_spot (hcell 0 (by omega))
 subst hspot
 refine ⟨ab, ao, rfl, by have := World.block_lt_of_cell? W _ (hcell 0 (by omega)); simpa [Addr.add] using this, fun i hi => ?_⟩
 have hcj := hcell i (by omega)
 rw [Addr.add_lit] at hcj
 rw [hcj]
 have hb := range_u8 hwz i
 have e : zs[i]? = some (zs[i]'(by omega)) := List.getElem?_eq_getElem (by omega)
 have e2 : (List.map (fun n => UInt8.ofNat n.toNat) (zs.take len)).getD i 0 = UInt8.ofNat (zs[i]'(by omega)).toNat := by
  simp [List.getD, hi, e]
 rw [e2, List.getD_eq_getElem?_getD, e]
 rw [e] at hb
 simp only [Option.getD_some] at hb ⊢
 congr 2
 simp only [UInt8.toNat_ofNat']
 omega
theorem Try.cells3 : Try.prog.cellsOf 3 = 1 := by kernel_rfl
theorem Try.cells24 : Try.prog.cellsOf 24 = 1 := by kernel_rfl
theorem Try.cells25 : Try.prog.cellsOf 25 = 1 := by kernel_rfl
theorem wf_i64 {n : Int} (h : (Lit.int .i64 n).wf = true) : -9223372036854775808 ≤ n ∧ n ≤ 9223372036854775807 := by
 simp [Lit.wf, IntKind.min, IntKind.max, IntKind.signed, IntKind.bits] at h; omega
theorem wf_u64 {n : Int} (h : (Lit.int .u64 n).wf = true) : 0 ≤ n ∧ n < 18446744073709551616 := by
 simp [Lit.wf, IntKind.min, IntKind.max, IntKind.signed, IntKind.bits] at h; omega
def fields76 : List Field := [⟨ "Op", 3, 0, false, "", "", 0⟩, ⟨ "ID", 3, 1, false, "", "", 8⟩, ⟨ "Pin", 3, 2, false, "", "", 16⟩, ⟨ "Owner", 3, 3, false, "", "", 24⟩, ⟨ "Limit", 3, 4, false, "", "", 32⟩, ⟨ "Client", 3, 5, false, "", "", 40⟩, ⟨ "Num", 24, 6, false, "", "", 48⟩, ⟨ "Secret", 25, 7, false, "", "", 56⟩]
def KpRow (W : World) (v : Value) : Prop := ∃ (ad : Option Addr) (cap : Nat) (l : List Kq), v = .slice ad l.length cap ∧ Kp.In ad cap l W ∧ l.length ≤ 9223372036854775807
end Go.Proofs.Ytmjfnpmnhehnkaa
namespace Go.Proofs.Ytmjfnpmnhehnkaa
open Go.ChangeShapes Go.WideShapes Go.ChangeAt Go.RowKit Go.Deep
theorem seg_drop (cs : List Value) (o c : Nat) : cs.drop o = (cs.drop o).take c ++ cs.drop (o + c) := by
  rw [← List.drop_drop]; exact (List.take_append_drop c (cs.drop o)).symm
def byOf : Value → UInt8
  | .int _ z => UInt8.ofNat z.toNat
  | _ => 0
theorem byOf_int (b : UInt8) : byOf (.int .u8 (b.toNat : Int)) = b := by
  unfold byOf; simp
theorem open_row {H : Type} {enc : TypeId × Value → H} {P : Program} {w : World} {base : Nat} {spare : Nat → Bool} {held : Bool} {m n : Nat} {t e : TypeId} {cs : List Value} {x : DataW H × List MemPlace}
    (ht : P.underlying t = some (.array n e)) (he : P.underlying e = some (.int .u8)) (hce : P.cellsOf e = 1) (hct : P.cellsOf t = n) (h : DataW.trod enc P w base spare held m t cs = some x) :
    ∃ l : List UInt8, l.length = n ∧ cs = Lib.byteCells l := by
  obtain ⟨xs, m', _, _, hl, hx, hi⟩ := DataW.trod_array ht h
  rw [hct] at hl
  have key : ∀ i, i < n → ∃ b : UInt8, cs[i]? = some (.int .u8 (b.toNat : Int)) := by
    intro i h1
    have h2 := hi i h1
    rw [hce, Nat.mul_one, List.getElem?_eq_getElem (by omega)] at h2
    obtain ⟨z, h3, _, h5⟩ := DataW.trod_int he h2
    have hz : 0 ≤ z ∧ z < 256 := by
      simp [Lit.wf, IntKind.min, IntKind.max, IntKind.signed, IntKind.bits] at h5
      omega
    refine ⟨UInt8.ofNat z.toNat, ?_⟩
    have h6 : (cs.drop i).take 1 = [cs[i]] := by
      rw [List.drop_eq_getElem_cons (by omega)]; rfl
    rw [h6] at h3
    injection h3 with h3
    rw [List.getElem?_eq_getElem (by omega), h3]
    have : z.toNat < 256 := by omega
    rw [UInt8.toNat_ofNat_of_lt' (by simpa using this)]
    simp; omega
  refine ⟨(List.range n).map fun i => byOf (cs.getD i undef), by simp, ?_⟩
  apply List.ext_getElem?
  intro i
  by_cases h1 : i < n
  · obtain ⟨b, hb⟩ := key i h1
    have e1 : cs.getD i undef = .int .u8 (b.toNat : Int) := by simp [List.getD, hb]
    rw [hb]
    simp only [Lib.byteCells, List.getElem?_map, List.getElem?_range h1, Option.map_some, e1, byOf_int]
  rw [List.getElem?_eq_none (by omega), List.getElem?_eq_none (by simp [Lib.byteCells]; omega)]
theorem open_dig {H : Type} (enc : TypeId × Value → H) {P : Program} (w : World) {b0 base : Nat} {spare : Nat → Bool} {held : Bool} {n : Nat} {t e : TypeId} {r : Reach} (v : Value) {d : DataW H} {ps : List MemPlace}
    (ht : P.underlying t = some (.array n e)) (he : P.underlying e = some (.int .u8)) (hce : P.cellsOf e = 1) (hct : P.cellsOf t = n) (hval : Value.okWide P w r b0 t v) (h : DataW.Trod enc P w base spare held t v d ps) :
    ∃ l : List UInt8, l.length = n ∧ v = digV l := by
  obtain ⟨m, hm⟩ := h
  simp only [Value.okWide, ht] at hval
  obtain ⟨cs, rfl, _, _⟩ := hval
  obtain ⟨l, hl, hc⟩ := open_row ht he hce hct hm
  refine ⟨l, hl, ?_⟩
  unfold digV
  rw [← hc]
  simp [Value.cells]
theorem Try.cells32 : Try.prog.cellsOf 32 = 4 := by kernel_rfl
theorem Try.cells45 : Try.prog.cellsOf 45 = 1 := by kernel_rfl
set_option maxRecDepth 100000 in
theorem open_id {H : Type} (enc : TypeId × Value → H) (W : World) (v : Value) {d : DataW H} {ps : List MemPlace} (base : Nat) (hval : Value.okWide Try.prog W .any base 32 v) (h : DataW.Trod enc Try.prog W 0 (fun _ => true) true 32 v d ps) :
    ∃ l : List UInt8, l.length = 4 ∧ v = digV l := open_dig enc W v Try.underlying32 Try.underlying5 Try.cells5 Try.cells32 hval h
theorem Try.cells83 : Try.prog.cellsOf 83 = 10 := by kernel_rfl
def fields83 : List Field := [⟨ "Why", 45, 0, false, "", "", 0⟩, ⟨ "ID", 32, 1, false, "", "", 8⟩, ⟨ "Gen", 24, 5, false, "", "", 16⟩, ⟨ "Left", 3, 6, false, "", "", 24⟩, ⟨ "Secret", 25, 7, false, "", "", 32⟩, ⟨ "Client", 3, 8, false, "", "", 56⟩, ⟨ "Num", 24, 9, false, "", "", 64⟩]
theorem fields83_is : (Try.prog.fieldsOf 83).toList = fields83 := by
  unfold Program.fieldsOf
  rw [Try.underlying83]
  rfl
theorem under83 : Try.prog.underlying 83 = some (.struct (Try.prog.fieldsOf 83)) := by
  unfold Program.fieldsOf; rw [Try.underlying83]
set_option maxRecDepth 100000 in
theorem rt_cells {H : Type} {enc : TypeId × Value → H} {W : World} {n : Nat} {cs : List Value} {x : DataW H × List MemPlace} (hl : cs.length = 10) (h : DataW.trod enc Try.prog W 0 (fun _ => true) true n 83 cs = some x) :
    ∃ z : Rt, cs = z.C ∧ RI W z := by
  obtain ⟨xs, k, _, _, _, hlen, hf⟩ := DataW.trod_struct under83 h
  have hfs : (Try.prog.fieldsOf 83).toList = fields83 := fields83_is
  have g0 : (Try.prog.fieldsOf 83)[0]? = some ⟨ "Why", 45, 0, false, "", "", 0⟩ := by rw [← Array.getElem?_toList, hfs]; rfl
  have g1 : (Try.prog.fieldsOf 83)[1]? = some ⟨ "ID", 32, 1, false, "", "", 8⟩ := by rw [← Array.getElem?_toList, hfs]; rfl
  have g2 : (Try.prog.fieldsOf 83)[2]? = some ⟨ "Gen", 24, 5, false, "", "", 16⟩ := by rw [← Array.getElem?_toList, hfs]; rfl
  have g3 : (Try.prog.fieldsOf 83)[3]? = some ⟨ "Left", 3, 6, false, "", "", 24⟩ := by rw [← Array.getElem?_toList, hfs]; rfl
  have g4 : (Try.prog.fieldsOf 83)[4]? = some ⟨ "Secret", 25, 7, false, "", "", 32⟩ := by rw [← Array.getElem?_toList, hfs]; rfl
  have g5 : (Try.prog.fieldsOf 83)[5]? = some ⟨ "Client", 3, 8, false, "", "", 56⟩ := by rw [← Array.getElem?_toList, hfs]; rfl
  have g6 : (Try.prog.fieldsOf 83)[6]? = some ⟨ "Num", 24, 9, false, "", "", 64⟩ := by rw [← Array.getElem?_toList, hfs]; rfl
  have hn : xs.length = 7 := by rw [hlen, ← Array.length_toList, hfs]; rfl
  match xs, hn with
  | [y0, y1, y2, y3, y4, y5, y6], _ =>
    have f0 : DataW.trod enc Try.prog W 0 (fun _ => true) true k 45 ((cs.drop 0).take (Try.prog.cellsOf 45)) = some y0 := hf 0 _ g0
    rw [Try.cells45] at f0
    obtain ⟨m0, e0, _, w0⟩ := DataW.trod_int Try.underlying45 f0
    have f1 : DataW.trod enc Try.prog W 0 (fun _ => true) true k 32 ((cs.drop 1).take (Try.prog.cellsOf 32)) = some y1 := hf 1 _ g1
    rw [Try.cells32] at f1
    obtain ⟨d1, n1, e1⟩ := open_row Try.underlying32 Try.underlying5 Try.cells5 Try.cells32 f1
    have f2 : DataW.trod enc Try.prog W 0 (fun _ => true) true k 24 ((cs.drop 5).take (Try.prog.cellsOf 24)) = some y2 := hf 2 _ g2
    rw [Try.cells24] at f2
    obtain ⟨m2, e2, _, w2⟩ := DataW.trod_int Try.underlying24 f2
    have f3 : DataW.trod enc Try.prog W 0 (fun _ => true) true k 3 ((cs.drop 6).take (Try.prog.cellsOf 3)) = some y3 := hf 3 _ g3
    rw [Try.cells3] at f3
    obtain ⟨m3, e3, _, w3⟩ := DataW.trod_int Try.underlying3 f3
    have f4 : DataW.trod enc Try.prog W 0 (fun _ => true) true k 25 ((cs.drop 7).take (Try.prog.cellsOf 25)) = some y4 := hf 4 _ g4
    rw [Try.cells25] at f4
    obtain ⟨p4, e4, in4, ln4⟩ := open_bytes f4
    have f5 : DataW.trod enc Try.prog W 0 (fun _ => true) true k 3 ((cs.drop 8).take (Try.prog.cellsOf 3)) = some y5 := hf 5 _ g5
    rw [Try.cells3] at f5
    obtain ⟨m5, e5, _, w5⟩ := DataW.trod_int Try.underlying3 f5
    have f6 : DataW.trod enc Try.prog W 0 (fun _ => true) true k 24 ((cs.drop 9).take (Try.prog.cellsOf 24)) = some y6 := hf 6 _ g6
    rw [Try.cells24] at f6
    obtain ⟨m6, e6, _, w6⟩ := DataW.trod_int Try.underlying24 f6
    have hcs : cs = (cs.drop 0).take 1 ++ ((cs.drop 1).take 4 ++ ((cs.drop 5).take 1 ++ ((cs.drop 6).take 1 ++ ((cs.drop 7).take 1 ++ ((cs.drop 8).take 1 ++ ((cs.drop 9).take 1)))))) := by
      have s0 : cs.drop 0 = (cs.drop 0).take 1 ++ cs.drop 1 := (seg_drop cs 0 1)
      have s1 : cs.drop 1 = (cs.drop 1).take 4 ++ cs.drop 5 := (seg_drop cs 1 4)
      have s2 : cs.drop 5 = (cs.drop 5).take 1 ++ cs.drop 6 := (seg_drop cs 5 1)
      have s3 : cs.drop 6 = (cs.drop 6).take 1 ++ cs.drop 7 := (seg_drop cs 6 1)
      have s4 : cs.drop 7 = (cs.drop 7).take 1 ++ cs.drop 8 := (seg_drop cs 7 1)
      have s5 : cs.drop 8 = (cs.drop 8).take 1 ++ cs.drop 9 := (seg_drop cs 8 1)
      have s6 : cs.drop 9 = (cs.drop 9).take 1 := (List.take_of_length_le (by rw [List.length_drop, hl]; exact Nat.le_refl _)).symm
      conv => lhs; rw [show cs = cs.drop 0 from rfl]
      conv => lhs; rw [s0]
      conv => lhs; rhs; rw [s1]
      conv => lhs; rhs; rhs; rw [s2]
      conv => lhs; rhs; rhs; rhs; rw [s3]
      conv => lhs; rhs; rhs; rhs; rhs; rw [s4]
      conv => lhs; rhs; rhs; rhs; rhs; rhs; rw [s5]
      conv => lhs; rhs; rhs; rhs; rhs; rhs; rhs; rw [s6]
    rw [e0, e1, e2, e3, e4, e5, e6] at hcs
    exact ⟨⟨m0, d1, m2, m3, p4, m5, m6⟩, hcs.trans (by simp [Rt.C]), ⟨⟨(wf_i64 w0).1, (wf_i64 w0).2, n1, (wf_u64 w2).1, (wf_u64 w2).2, (wf_i64 w3).1, (wf_i64 w3).2, (wf_i64 w5).1, (wf_i64 w5).2, (wf_u64 w6).1, (wf_u64 w6).2⟩, in4⟩⟩
def RpRow (W : World) (v : Value) : Prop := ∃ (ad : Option Addr) (cap : Nat) (l : List Rt), v = .slice ad l.length cap ∧ Rp.In ad cap l W ∧ l.length ≤ 9223372036854775807
set_option maxRecDepth 100000 in
theorem open_rts {H : Type} (enc : TypeId × Value → H) (W : World) (v : Value) {d : DataW H} {ps : List MemPlace} (base : Nat) (hval : Value.okWide Try.prog W .any base 98 v) (h : DataW.Trod enc Try.prog W 0 (fun _ => true) true 98 v d ps) : RpRow W v := by
  obtain ⟨a1, len1, cap1, rfl⟩ := okWide_slice Try.underlying98 hval
  obtain ⟨fuel, hf⟩ := h
  rcases open_slice Try.underlying98 hf with ⟨hcs, hx⟩ | ⟨a, len, cap, m, n, D, Pl, hcs, hb, hl, hm, hmm, hx, hi⟩
  · simp [Value.cells] at hcs
    obtain ⟨rfl, rfl, rfl⟩ := hcs
    exact ⟨none, 0, [], rfl, ⟨Nat.le_refl _, fun _ => rfl, fun i x hx => by simp at hx, fun h => absurd h (Nat.lt_irrefl 0)⟩, Nat.zero_le _⟩
  simp [Value.cells] at hcs
  obtain ⟨rfl, rfl, rfl⟩ := hcs
  simp only [if_true] at hmm
  have key : ∀ i : Fin len1, ∃ z : Rt, RI W z ∧ ∀ (j : Nat) (u : Value), z.C[j]? = some u → W.cell? ((a.add (i.1 * 10)).add j) = some u := fun i => by
    obtain ⟨cs', hc, ht'⟩ := hi i.1 (by have := i.2; omega)
    rw [Try.cells83] at hc
    obtain ⟨_, hcl, hat⟩ := World.cells?_some hc
    obtain ⟨z, z1, z3⟩ := rt_cells hcl ht'
    refine ⟨z, z3, fun j u hu => ?_⟩
    have hj : j < 10 := by rw [← z1] at hu; have := (List.getElem?_eq_some_iff.1 hu).1; omega
    rw [hat j hj, z1]; exact hu
  obtain ⟨f, hff⟩ := Classical.axiomOfChoice key
  have hget : ∀ (i : Nat) (x : Rt), (List.ofFn f)[i]? = some x → ∃ hi : i < len1, x = f ⟨i, hi⟩ := fun i x hx => by
    have hlt : i < len1 := by have := (List.getElem?_eq_some_iff.1 hx).1; simpa using this
    refine ⟨hlt, ?_⟩
    rw [List.getElem?_ofFn, dif_pos hlt] at hx
    exact (Option.some.inj hx).symm
  refine ⟨some a, cap1, List.ofFn f, by simp, ⟨by simpa using hl, (fun h => by cases h), fun i x hx => ?_, fun h0 => ?_⟩, by have := Nat.le_trans hl hm; unfold maxLen at this; simpa using this⟩
  · obtain ⟨h1, rfl⟩ := hget i x hx
    exact (hff ⟨i, h1⟩).1
  have hpos : 0 < len1 := by rwa [List.length_ofFn] at h0
  obtain ⟨ab, ao, spot⟩ := a
  have hc0 := (hff ⟨0, hpos⟩).2 0 _ rfl
  have hspot : spot = none := by simpa [Addr.add] using World.cell?_spot hc0
  subst hspot
  refine ⟨ab, ao, rfl, by have := World.block_lt_of_cell? W _ hc0; simpa [Addr.add] using this, fun i x hx => ?_⟩
  obtain ⟨h1, rfl⟩ := hget i x hx
  intro j u hu
  have z1 := (hff ⟨i, h1⟩).2 j u hu
  rw [Addr.add_lit, Addr.add_lit] at z1
  exact z1
end Go.Proofs.Ytmjfnpmnhehnkaa
namespace Go.Proofs.Ytmjfnpmnhehnkaa
open Go.RowKit
theorem counts_law (v1 v2 v3 : Value) (g : Int) (w : World) (h1 : RpRow w v1) (h2 : RpRow w v2) (h3 : ∃ l : List UInt8, l.length = 4 ∧ v3 = digV l) (hg : (Lit.int .u64 g).wf = true) : Calls Try.prog 14 #[v1, v2, v3, .int .u64 g] w fun e w' => e = .returned (.bool true) ∧ Below w.heap.size w w' := by
  obtain ⟨ad, cap, l, rfl, hin, hl⟩ := h1
  obtain ⟨ad2, cap2, o, rfl, hin2, hl2⟩ := h2
  obtain ⟨id, hid, rfl⟩ := h3
  exact counts_any ad cap l ad2 cap2 o id g w hl hl2 hin hin2 hid (wf_u64 hg)
end Go.Proofs.Ytmjfnpmnhehnkaa
