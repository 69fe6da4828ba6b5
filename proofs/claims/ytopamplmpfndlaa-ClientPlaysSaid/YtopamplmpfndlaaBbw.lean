/- Dd, Dg -/
import Derived.Test.YtopamplmpfndlaaBbv
import Derived.OpenShut
import Derived.SizedLaws
import Derived.ChangeSlices
import Derived.Deep.Slices
import Derived.Deep.Fields
set_option maxRecDepth 100000
set_option maxHeartbeats 16000000
namespace Go.Proofs.Ytopamplmpfndlaa.Cl
open Go.ChangeShapes Go.WideShapes Go.ChangeAt Go.RowKit Go.Deep
theorem seg_drop (cs : List Value) (o c : Nat) : cs.drop o = (cs.drop o).take c ++ cs.drop (o + c) := by
 rw [← List.drop_drop]; exact (List.take_append_drop c (cs.drop o)).symm
def Fit {H : Type} (T : TypeId) (d : DataW H) : Prop := ∀ n ∈ d.weights Try.prog T, n ≤ 140737488351232
theorem fit_agg {H : Type} {T : TypeId} {fs : Array Field} (ht : Try.prog.underlying T = some (.struct fs)) {parts : List (DataW H)} (h : Fit T (.agg parts)) {j : Nat} {f : Field} {d : DataW H} (hf : fs[j]? = some f) (hd : parts[j]? = some d) : Fit f.type d := fun n hn => h n (by
 have h1 := DataW.weights_mem_each (P := Try.prog) (ts := fs.toList.map (·.type)) (ds := parts) (j := j) (t := f.type) (d := d) (by simp [hf]) hd n hn
 unfold DataW.weights
 rw [ht]
 exact h1)
theorem fit_str {H : Type} {T : TypeId} {b : List UInt8} (h : Fit (H := H) T (.lit (.string b))) : b.length ≤ 140737488351232 := h _ (by simp [DataW.weights])
theorem weights_all {H : Type} {e : TypeId} {n : Nat} : ∀ {l : List (DataW H)} {d : DataW H}, d ∈ l → n ∈ d.weights Try.prog e → n ∈ DataW.weightsAll Try.prog e l
 | [], _, h, _ => by cases h
 | x :: r, d, h, hn => by
  unfold DataW.weightsAll
  rw [List.mem_append]
  rcases List.mem_cons.1 h with rfl | h
  ·exact Or.inl hn
  ·exact Or.inr (weights_all h hn)
theorem fit_slice {H : Type} {T e : TypeId} {el sp : List (DataW H)} (ht : Try.prog.underlying T = some (.slice e)) (h : Fit T (.slice el sp)) : (el.length + sp.length) * Try.prog.bytesOf e ≤ 140737488351232 ∧ ∀ d ∈ el, Fit e d := by
 have hw : (DataW.slice el sp).weights Try.prog T = (el.length + sp.length) * Try.prog.bytesOf e :: (DataW.weightsAll Try.prog e el ++ DataW.weightsAll Try.prog e sp) := by
  unfold DataW.weights
  rw [ht]
 refine ⟨h _ (by rw [hw]; exact List.mem_cons_self ..), fun d hd n hn => h n ?_⟩
 rw [hw]
 exact List.mem_cons_of_mem _ (List.mem_append_left _ (weights_all hd hn))
theorem Try.bytesU8 : Try.prog.bytesOf 5 = 1 := by kernel_rfl
theorem Try.cells5 : Try.prog.cellsOf 5 = 1 := by kernel_rfl
def byOf : Value → UInt8
 | .int _ z => UInt8.ofNat z.toNat
 | _ => 0
theorem byOf_int (b : UInt8) : byOf (.int .u8 (b.toNat : Int)) = b := by
 unfold byOf; simp
theorem open_row {H : Type} {enc : TypeId × Value → H} {P : Program} {w : World} {base : Nat} {spare : Nat → Bool} {held : Bool} {m n : Nat} {t e : TypeId} {cs : List Value} {x : DataW H × List MemPlace}
  (ht : P.underlying t = some (.array n e)) (he : P.underlying e = some (.int .u8)) (hce : P.cellsOf e = 1) (hct : P.cellsOf t = n) (h : DataW.trod enc P w base spare held m t cs = some x) :
  ∃ l : List UInt8, l.length = n ∧ cs = Lib.byteCells l := by
 obtain ⟨xs, m', _, _, hl, hx, hi⟩ := DataW.trod_array ht h
 rw [hct] at hl
 have key : ∀ i, i < n → ∃ b : UInt8, cs[i]? = some (.int .u8 (b.toNat : Int)) := by
  intro i h1
  have h2 := hi i h1
  rw [hce, Nat.mul_one, List.getElem?_eq_getElem (by omega)] at h2
  obtain ⟨z, h3, _, h5⟩ := DataW.trod_int he h2
  have hz : 0 ≤ z ∧ z < 256 := by
   simp [Lit.wf, IntKind.min, IntKind.max, IntKind.signed, IntKind.bits] at h5
   omega
  refine ⟨UInt8.ofNat z.toNat, ?_⟩
  have h6 : (cs.drop i).take 1 = [cs[i]] := by
   rw [List.drop_eq_getElem_cons (by omega)]; rfl
  rw [h6] at h3
  injection h3 with h3
  rw [List.getElem?_eq_getElem (by omega), h3]
  have : z.toNat < 256 := by omega
  rw [UInt8.toNat_ofNat_of_lt' (by simpa using this)]
  simp; omega
 refine ⟨(List.range n).map fun i => byOf (cs.getD i undef), by simp, ?_⟩
 apply List.ext_getElem?
 intro i
 by_cases h1 : i < n
 ·obtain ⟨b, hb⟩ := key i h1
  have e1 : cs.getD i undef = .int .u8 (b.toNat : Int) := by simp [List.getD, hb]
  rw [hb]
  simp only [Lib.byteCells, List.getElem?_map, List.getElem?_range h1, Option.map_some, e1, byOf_int]
 rw [List.getElem?_eq_none (by omega), List.getElem?_eq_none (by simp [Lib.byteCells]; omega)]
theorem open_dig {H : Type} (enc : TypeId × Value → H) {P : Program} (w : World) {b0 base : Nat} {spare : Nat → Bool} {held : Bool} {n : Nat} {t e : TypeId} {r : Reach} (v : Value) {d : DataW H} {ps : List MemPlace}
  (ht : P.underlying t = some (.array n e)) (he : P.underlying e = some (.int .u8)) (hce : P.cellsOf e = 1) (hct : P.cellsOf t = n) (hval : Value.okWide P w r b0 t v) (h : DataW.Trod enc P w base spare held t v d ps) :
  ∃ l : List UInt8, l.length = n ∧ v = digV l := by
 obtain ⟨m, hm⟩ := h
 simp only [Value.okWide, ht] at hval
 obtain ⟨cs, rfl, _, _⟩ := hval
 obtain ⟨l, hl, hc⟩ := open_row ht he hce hct hm
 refine ⟨l, hl, ?_⟩
 unfold digV
 rw [← hc]
 simp [Value.cells]
theorem open_bytes {H : Type} {enc : TypeId × Value → H} {W : World} {n : Nat} {cs : List Value} {x : DataW H × List MemPlace} (hz9 : Fit 23 x.1) (h : DataW.trod enc Try.prog W 0 (fun _ => true) true n 23 cs = some x) :
  ∃ p : Pt, cs = [p.V] ∧ p.In W W.heap.size ∧ p.l.length ≤ 140737488351232 := by
 rcases open_ints Try.underlying23 Try.underlying5 Try.cells5 h with ⟨hcs, hx⟩ | ⟨a, len, cap, zs, hcs, _, hl, hm, hz, hx, hcell, hwz⟩
 ·exact ⟨⟨none, 0, []⟩, hcs, ⟨Nat.le_refl _, fun _ => rfl, fun h => absurd h (Nat.lt_irrefl 0)⟩, Nat.zero_le _⟩
 simp only [if_true] at hz
 have hlen : ((zs.take len).map fun n => UInt8.ofNat n.toNat).length = len := by simp; omega
 refine ⟨⟨some a, cap, (zs.take len).map fun n => UInt8.ofNat n.toNat⟩, by rw [hcs]; unfold Pt.V; simp only [hlen], ⟨by simp only [hlen]; exact hl, (fun h => by cases h), fun h0 => ?_⟩, by
  rw [hx] at hz9
  have h9 := (fit_slice Try.underlying23 hz9).1
  rw [Try.bytesU8, Nat.mul_one] at h9
  simp only [hlen]
  simp only [lits, List.length_map, List.length_take] at h9
  omega⟩
 simp only [hlen] at h0 ⊢
 obtain ⟨ab, ao, spot⟩ := a
 have hspot : spot = none := by simpa [Addr.add] using World.cell?_spot (hcell 0 (by omega))
 subst hspot
 refine ⟨ab, ao, rfl, by have := World.block_lt_of_cell? W _ (hcell 0 (by omega)); simpa [Addr.add] using this, fun i hi => ?_⟩
 have hcj := hcell i (by omega)
 rw [Addr.add_lit] at hcj
 rw [hcj]
 have hb := range_u8 hwz i
 have e : zs[i]? = some (zs[i]'(by omega)) := List.getElem?_eq_getElem (by omega)
 have e2 : (List.map (fun n => UInt8.ofNat n.toNat) (zs.take len)).getD i 0 = UInt8.ofNat (zs[i]'(by omega)).toNat := by
  simp [List.getD, hi, e]
 rw [e2, List.getD_eq_getElem?_getD, e]
 rw [e] at hb
 simp only [Option.getD_some] at hb ⊢
 congr 2
 simp only [UInt8.toNat_ofNat']
 omega
theorem Try.cells3 : Try.prog.cellsOf 3 = 1 := by kernel_rfl
theorem Try.cells27 : Try.prog.cellsOf 27 = 1 := by kernel_rfl
theorem Try.cells23 : Try.prog.cellsOf 23 = 1 := by kernel_rfl
theorem wf_i64 {n : Int} (h : (Lit.int .i64 n).wf = true) : -9223372036854775808 ≤ n ∧ n ≤ 9223372036854775807 := by
 simp [Lit.wf, IntKind.min, IntKind.max, IntKind.signed, IntKind.bits] at h; omega
theorem wf_u64 {n : Int} (h : (Lit.int .u64 n).wf = true) : 0 ≤ n ∧ n < 18446744073709551616 := by
 simp [Lit.wf, IntKind.min, IntKind.max, IntKind.signed, IntKind.bits] at h; omega
theorem Try.cells26 : Try.prog.cellsOf 26 = 4 := by kernel_rfl
theorem Try.cells9 : Try.prog.cellsOf 9 = 1 := by kernel_rfl
theorem Try.cells24 : Try.prog.cellsOf 24 = 1 := by kernel_rfl
theorem Try.cells29 : Try.prog.cellsOf 29 = 10 := by kernel_rfl
def fields29 : List Field := [⟨ "Why", 24, 0, false, "", "", 0⟩, ⟨ "ID", 26, 1, false, "", "", 8⟩, ⟨ "Gen", 27, 5, false, "", "", 16⟩, ⟨ "Left", 3, 6, false, "", "", 24⟩, ⟨ "Secret", 23, 7, false, "", "", 32⟩, ⟨ "Client", 3, 8, false, "", "", 56⟩, ⟨ "Num", 27, 9, false, "", "", 64⟩]
theorem fields29_is : (Try.prog.fieldsOf 29).toList = fields29 := by
 unfold Program.fieldsOf
 rw [Try.underlying29]
 rfl
theorem under29 : Try.prog.underlying 29 = some (.struct (Try.prog.fieldsOf 29)) := by
 unfold Program.fieldsOf; rw [Try.underlying29]
theorem rt_cells {H : Type} {enc : TypeId × Value → H} {W : World} {n : Nat} {cs : List Value} {x : DataW H × List MemPlace} (hl : cs.length = 10) (hz9 : Fit 29 x.1) (h : DataW.trod enc Try.prog W 0 (fun _ => true) true n 29 cs = some x) :
  ∃ z : Rt, cs = z.C ∧ RI W z ∧ z.sec.l.length ≤ 140737488355328 := by
 obtain ⟨xs, k, _, hx, _, hlen, hf⟩ := DataW.trod_struct under29 h
 have hfs : (Try.prog.fieldsOf 29).toList = fields29 := fields29_is
 have g0 : (Try.prog.fieldsOf 29)[0]? = some ⟨ "Why", 24, 0, false, "", "", 0⟩ := by rw [← Array.getElem?_toList, hfs]; rfl
 have g1 : (Try.prog.fieldsOf 29)[1]? = some ⟨ "ID", 26, 1, false, "", "", 8⟩ := by rw [← Array.getElem?_toList, hfs]; rfl
 have g2 : (Try.prog.fieldsOf 29)[2]? = some ⟨ "Gen", 27, 5, false, "", "", 16⟩ := by rw [← Array.getElem?_toList, hfs]; rfl
 have g3 : (Try.prog.fieldsOf 29)[3]? = some ⟨ "Left", 3, 6, false, "", "", 24⟩ := by rw [← Array.getElem?_toList, hfs]; rfl
 have g4 : (Try.prog.fieldsOf 29)[4]? = some ⟨ "Secret", 23, 7, false, "", "", 32⟩ := by rw [← Array.getElem?_toList, hfs]; rfl
 have g5 : (Try.prog.fieldsOf 29)[5]? = some ⟨ "Client", 3, 8, false, "", "", 56⟩ := by rw [← Array.getElem?_toList, hfs]; rfl
 have g6 : (Try.prog.fieldsOf 29)[6]? = some ⟨ "Num", 27, 9, false, "", "", 64⟩ := by rw [← Array.getElem?_toList, hfs]; rfl
 have hn : xs.length = 7 := by rw [hlen, ← Array.length_toList, hfs]; rfl
 match xs, hn with
 | [y0, y1, y2, y3, y4, y5, y6], _ =>
  rw [hx] at hz9
  have f0 : DataW.trod enc Try.prog W 0 (fun _ => true) true k 24 ((cs.drop 0).take (Try.prog.cellsOf 24)) = some y0 := hf 0 _ g0
  rw [Try.cells24] at f0
  obtain ⟨m0, e0, _, w0⟩ := DataW.trod_int Try.underlying24 f0
  have f1 : DataW.trod enc Try.prog W 0 (fun _ => true) true k 26 ((cs.drop 1).take (Try.prog.cellsOf 26)) = some y1 := hf 1 _ g1
  rw [Try.cells26] at f1
  obtain ⟨d1, n1, e1⟩ := open_row Try.underlying26 Try.underlying5 Try.cells5 Try.cells26 f1
  have f2 : DataW.trod enc Try.prog W 0 (fun _ => true) true k 27 ((cs.drop 5).take (Try.prog.cellsOf 27)) = some y2 := hf 2 _ g2
  rw [Try.cells27] at f2
  obtain ⟨m2, e2, _, w2⟩ := DataW.trod_int Try.underlying27 f2
  have f3 : DataW.trod enc Try.prog W 0 (fun _ => true) true k 3 ((cs.drop 6).take (Try.prog.cellsOf 3)) = some y3 := hf 3 _ g3
  rw [Try.cells3] at f3
  obtain ⟨m3, e3, _, w3⟩ := DataW.trod_int Try.underlying3 f3
  have f4 : DataW.trod enc Try.prog W 0 (fun _ => true) true k 23 ((cs.drop 7).take (Try.prog.cellsOf 23)) = some y4 := hf 4 _ g4
  rw [Try.cells23] at f4
  have z94 : Fit 23 y4.1 := fit_agg under29 hz9 g4 rfl
  obtain ⟨p4, e4, in4, ln4⟩ := open_bytes z94 f4
  have f5 : DataW.trod enc Try.prog W 0 (fun _ => true) true k 3 ((cs.drop 8).take (Try.prog.cellsOf 3)) = some y5 := hf 5 _ g5
  rw [Try.cells3] at f5
  obtain ⟨m5, e5, _, w5⟩ := DataW.trod_int Try.underlying3 f5
  have f6 : DataW.trod enc Try.prog W 0 (fun _ => true) true k 27 ((cs.drop 9).take (Try.prog.cellsOf 27)) = some y6 := hf 6 _ g6
  rw [Try.cells27] at f6
  obtain ⟨m6, e6, _, w6⟩ := DataW.trod_int Try.underlying27 f6
  have hcs : cs = (cs.drop 0).take 1 ++ ((cs.drop 1).take 4 ++ ((cs.drop 5).take 1 ++ ((cs.drop 6).take 1 ++ ((cs.drop 7).take 1 ++ ((cs.drop 8).take 1 ++ ((cs.drop 9).take 1)))))) := by
   have s0 : cs.drop 0 = (cs.drop 0).take 1 ++ cs.drop 1 := (seg_drop cs 0 1)
   have s1 : cs.drop 1 = (cs.drop 1).take 4 ++ cs.drop 5 := (seg_drop cs 1 4)
   have s2 : cs.drop 5 = (cs.drop 5).take 1 ++ cs.drop 6 := (seg_drop cs 5 1)
   have s3 : cs.drop 6 = (cs.drop 6).take 1 ++ cs.drop 7 := (seg_drop cs 6 1)
   have s4 : cs.drop 7 = (cs.drop 7).take 1 ++ cs.drop 8 := (seg_drop cs 7 1)
   have s5 : cs.drop 8 = (cs.drop 8).take 1 ++ cs.drop 9 := (seg_drop cs 8 1)
   have s6 : cs.drop 9 = (cs.drop 9).take 1 := (List.take_of_length_le (by rw [List.length_drop, hl]; exact Nat.le_refl _)).symm
   conv => lhs; rw [show cs = cs.drop 0 from rfl]
   conv => lhs; rw [s0]
   conv => lhs; rhs; rw [s1]
   conv => lhs; rhs; rhs; rw [s2]
   conv => lhs; rhs; rhs; rhs; rw [s3]
   conv => lhs; rhs; rhs; rhs; rhs; rw [s4]
   conv => lhs; rhs; rhs; rhs; rhs; rhs; rw [s5]
   conv => lhs; rhs; rhs; rhs; rhs; rhs; rhs; rw [s6]
  rw [e0, e1, e2, e3, e4, e5, e6] at hcs
  exact ⟨⟨m0, d1, m2, m3, p4, m5, m6⟩, hcs.trans (by simp [Rt.C]), ⟨⟨(wf_i64 w0).1, (wf_i64 w0).2, n1, (wf_u64 w2).1, (wf_u64 w2).2, (wf_i64 w3).1, (wf_i64 w3).2, (wf_i64 w5).1, (wf_i64 w5).2, (wf_u64 w6).1, (wf_u64 w6).2⟩, in4⟩, Nat.le_trans ln4 (by decide)⟩
theorem Try.cells31 : Try.prog.cellsOf 31 = 9 := by kernel_rfl
def fields31 : List Field := [⟨ "Op", 3, 0, false, "", "", 0⟩, ⟨ "ID", 26, 1, false, "", "", 8⟩, ⟨ "Pin", 9, 5, false, "", "", 16⟩, ⟨ "Secret", 23, 6, false, "", "", 32⟩, ⟨ "Limit", 3, 7, false, "", "", 56⟩, ⟨ "Owner", 9, 8, false, "", "", 64⟩]
theorem fields31_is : (Try.prog.fieldsOf 31).toList = fields31 := by
 unfold Program.fieldsOf
 rw [Try.underlying31]
 rfl
theorem under31 : Try.prog.underlying 31 = some (.struct (Try.prog.fieldsOf 31)) := by
 unfold Program.fieldsOf; rw [Try.underlying31]
theorem wt_cells {H : Type} {enc : TypeId × Value → H} {W : World} {n : Nat} {cs : List Value} {x : DataW H × List MemPlace} (hl : cs.length = 9) (hz9 : Fit 31 x.1) (h : DataW.trod enc Try.prog W 0 (fun _ => true) true n 31 cs = some x) :
  ∃ z : Wt, cs = z.C ∧ WI W z := by
 obtain ⟨xs, k, _, hx, _, hlen, hf⟩ := DataW.trod_struct under31 h
 have hfs : (Try.prog.fieldsOf 31).toList = fields31 := fields31_is
 have g0 : (Try.prog.fieldsOf 31)[0]? = some ⟨ "Op", 3, 0, false, "", "", 0⟩ := by rw [← Array.getElem?_toList, hfs]; rfl
 have g1 : (Try.prog.fieldsOf 31)[1]? = some ⟨ "ID", 26, 1, false, "", "", 8⟩ := by rw [← Array.getElem?_toList, hfs]; rfl
 have g2 : (Try.prog.fieldsOf 31)[2]? = some ⟨ "Pin", 9, 5, false, "", "", 16⟩ := by rw [← Array.getElem?_toList, hfs]; rfl
 have g3 : (Try.prog.fieldsOf 31)[3]? = some ⟨ "Secret", 23, 6, false, "", "", 32⟩ := by rw [← Array.getElem?_toList, hfs]; rfl
 have g4 : (Try.prog.fieldsOf 31)[4]? = some ⟨ "Limit", 3, 7, false, "", "", 56⟩ := by rw [← Array.getElem?_toList, hfs]; rfl
 have g5 : (Try.prog.fieldsOf 31)[5]? = some ⟨ "Owner", 9, 8, false, "", "", 64⟩ := by rw [← Array.getElem?_toList, hfs]; rfl
 have hn : xs.length = 6 := by rw [hlen, ← Array.length_toList, hfs]; rfl
 match xs, hn with
 | [y0, y1, y2, y3, y4, y5], _ =>
  rw [hx] at hz9
  have f0 : DataW.trod enc Try.prog W 0 (fun _ => true) true k 3 ((cs.drop 0).take (Try.prog.cellsOf 3)) = some y0 := hf 0 _ g0
  rw [Try.cells3] at f0
  obtain ⟨m0, e0, _, w0⟩ := DataW.trod_int Try.underlying3 f0
  have f1 : DataW.trod enc Try.prog W 0 (fun _ => true) true k 26 ((cs.drop 1).take (Try.prog.cellsOf 26)) = some y1 := hf 1 _ g1
  rw [Try.cells26] at f1
  obtain ⟨d1, n1, e1⟩ := open_row Try.underlying26 Try.underlying5 Try.cells5 Try.cells26 f1
  have f2 : DataW.trod enc Try.prog W 0 (fun _ => true) true k 9 ((cs.drop 5).take (Try.prog.cellsOf 9)) = some y2 := hf 2 _ g2
  rw [Try.cells9] at f2
  have z92 : Fit 9 y2.1 := fit_agg under31 hz9 g2 rfl
  obtain ⟨s2, e2, x2, _⟩ := DataW.trod_string Try.underlying9 f2
  have n2 : s2.size ≤ 140737488351232 := by
   rw [x2] at z92
   exact fit_str z92
  have f3 : DataW.trod enc Try.prog W 0 (fun _ => true) true k 23 ((cs.drop 6).take (Try.prog.cellsOf 23)) = some y3 := hf 3 _ g3
  rw [Try.cells23] at f3
  have z93 : Fit 23 y3.1 := fit_agg under31 hz9 g3 rfl
  obtain ⟨p3, e3, in3, ln3⟩ := open_bytes z93 f3
  have f4 : DataW.trod enc Try.prog W 0 (fun _ => true) true k 3 ((cs.drop 7).take (Try.prog.cellsOf 3)) = some y4 := hf 4 _ g4
  rw [Try.cells3] at f4
  obtain ⟨m4, e4, _, w4⟩ := DataW.trod_int Try.underlying3 f4
  have f5 : DataW.trod enc Try.prog W 0 (fun _ => true) true k 9 ((cs.drop 8).take (Try.prog.cellsOf 9)) = some y5 := hf 5 _ g5
  rw [Try.cells9] at f5
  have z95 : Fit 9 y5.1 := fit_agg under31 hz9 g5 rfl
  obtain ⟨s5, e5, x5, _⟩ := DataW.trod_string Try.underlying9 f5
  have n5 : s5.size ≤ 140737488351232 := by
   rw [x5] at z95
   exact fit_str z95
  have hcs : cs = (cs.drop 0).take 1 ++ ((cs.drop 1).take 4 ++ ((cs.drop 5).take 1 ++ ((cs.drop 6).take 1 ++ ((cs.drop 7).take 1 ++ ((cs.drop 8).take 1))))) := by
   have s0 : cs.drop 0 = (cs.drop 0).take 1 ++ cs.drop 1 := (seg_drop cs 0 1)
   have s1 : cs.drop 1 = (cs.drop 1).take 4 ++ cs.drop 5 := (seg_drop cs 1 4)
   have s2 : cs.drop 5 = (cs.drop 5).take 1 ++ cs.drop 6 := (seg_drop cs 5 1)
   have s3 : cs.drop 6 = (cs.drop 6).take 1 ++ cs.drop 7 := (seg_drop cs 6 1)
   have s4 : cs.drop 7 = (cs.drop 7).take 1 ++ cs.drop 8 := (seg_drop cs 7 1)
   have s5 : cs.drop 8 = (cs.drop 8).take 1 := (List.take_of_length_le (by rw [List.length_drop, hl]; exact Nat.le_refl _)).symm
   conv => lhs; rw [show cs = cs.drop 0 from rfl]
   conv => lhs; rw [s0]
   conv => lhs; rhs; rw [s1]
   conv => lhs; rhs; rhs; rw [s2]
   conv => lhs; rhs; rhs; rhs; rw [s3]
   conv => lhs; rhs; rhs; rhs; rhs; rw [s4]
   conv => lhs; rhs; rhs; rhs; rhs; rhs; rw [s5]
  rw [e0, e1, e2, e3, e4, e5] at hcs
  exact ⟨⟨m0, d1, s2, p3, m4, s5⟩, hcs.trans (by simp [Wt.C]), ⟨⟨(wf_i64 w0).1, (wf_i64 w0).2, n1, (wf_i64 w4).1, (wf_i64 w4).2, n2, n5, Nat.le_trans ln3 (by decide)⟩, in3⟩⟩
theorem Try.cells33 : Try.prog.cellsOf 33 = 30 := by kernel_rfl
def fields33 : List Field := [⟨ "Kind", 3, 0, false, "", "", 0⟩, ⟨ "I", 3, 1, false, "", "", 8⟩, ⟨ "Member", 3, 2, false, "", "", 16⟩, ⟨ "Turn", 3, 3, false, "", "", 24⟩, ⟨ "Op", 3, 4, false, "", "", 32⟩, ⟨ "ID", 3, 5, false, "", "", 40⟩, ⟨ "Pin", 3, 6, false, "", "", 48⟩, ⟨ "Limit", 3, 7, false, "", "", 56⟩, ⟨ "Owner", 9, 8, false, "", "", 64⟩, ⟨ "Secret", 23, 9, false, "", "", 80⟩, ⟨ "R", 29, 10, false, "", "", 104⟩, ⟨ "B", 23, 20, false, "", "", 176⟩, ⟨ "Raw", 31, 21, false, "", "", 200⟩]
theorem fields33_is : (Try.prog.fieldsOf 33).toList = fields33 := by
 unfold Program.fieldsOf
 rw [Try.underlying33]
 rfl
theorem under33 : Try.prog.underlying 33 = some (.struct (Try.prog.fieldsOf 33)) := by
 unfold Program.fieldsOf; rw [Try.underlying33]
theorem ak_cells {H : Type} {enc : TypeId × Value → H} {W : World} {n : Nat} {cs : List Value} {x : DataW H × List MemPlace} (hl : cs.length = 30) (hz9 : Fit 33 x.1) (h : DataW.trod enc Try.prog W 0 (fun _ => true) true n 33 cs = some x) :
  ∃ z : Ak, cs = z.C ∧ AI W z := by
 obtain ⟨xs, k, _, hx, _, hlen, hf⟩ := DataW.trod_struct under33 h
 have hfs : (Try.prog.fieldsOf 33).toList = fields33 := fields33_is
 have g0 : (Try.prog.fieldsOf 33)[0]? = some ⟨ "Kind", 3, 0, false, "", "", 0⟩ := by rw [← Array.getElem?_toList, hfs]; rfl
 have g1 : (Try.prog.fieldsOf 33)[1]? = some ⟨ "I", 3, 1, false, "", "", 8⟩ := by rw [← Array.getElem?_toList, hfs]; rfl
 have g2 : (Try.prog.fieldsOf 33)[2]? = some ⟨ "Member", 3, 2, false, "", "", 16⟩ := by rw [← Array.getElem?_toList, hfs]; rfl
 have g3 : (Try.prog.fieldsOf 33)[3]? = some ⟨ "Turn", 3, 3, false, "", "", 24⟩ := by rw [← Array.getElem?_toList, hfs]; rfl
 have g4 : (Try.prog.fieldsOf 33)[4]? = some ⟨ "Op", 3, 4, false, "", "", 32⟩ := by rw [← Array.getElem?_toList, hfs]; rfl
 have g5 : (Try.prog.fieldsOf 33)[5]? = some ⟨ "ID", 3, 5, false, "", "", 40⟩ := by rw [← Array.getElem?_toList, hfs]; rfl
 have g6 : (Try.prog.fieldsOf 33)[6]? = some ⟨ "Pin", 3, 6, false, "", "", 48⟩ := by rw [← Array.getElem?_toList, hfs]; rfl
 have g7 : (Try.prog.fieldsOf 33)[7]? = some ⟨ "Limit", 3, 7, false, "", "", 56⟩ := by rw [← Array.getElem?_toList, hfs]; rfl
 have g8 : (Try.prog.fieldsOf 33)[8]? = some ⟨ "Owner", 9, 8, false, "", "", 64⟩ := by rw [← Array.getElem?_toList, hfs]; rfl
 have g9 : (Try.prog.fieldsOf 33)[9]? = some ⟨ "Secret", 23, 9, false, "", "", 80⟩ := by rw [← Array.getElem?_toList, hfs]; rfl
 have g10 : (Try.prog.fieldsOf 33)[10]? = some ⟨ "R", 29, 10, false, "", "", 104⟩ := by rw [← Array.getElem?_toList, hfs]; rfl
 have g11 : (Try.prog.fieldsOf 33)[11]? = some ⟨ "B", 23, 20, false, "", "", 176⟩ := by rw [← Array.getElem?_toList, hfs]; rfl
 have g12 : (Try.prog.fieldsOf 33)[12]? = some ⟨ "Raw", 31, 21, false, "", "", 200⟩ := by rw [← Array.getElem?_toList, hfs]; rfl
 have hn : xs.length = 13 := by rw [hlen, ← Array.length_toList, hfs]; rfl
 match xs, hn with
 | [y0, y1, y2, y3, y4, y5, y6, y7, y8, y9, y10, y11, y12], _ =>
  rw [hx] at hz9
  have f0 : DataW.trod enc Try.prog W 0 (fun _ => true) true k 3 ((cs.drop 0).take (Try.prog.cellsOf 3)) = some y0 := hf 0 _ g0
  rw [Try.cells3] at f0
  obtain ⟨m0, e0, _, w0⟩ := DataW.trod_int Try.underlying3 f0
  have f1 : DataW.trod enc Try.prog W 0 (fun _ => true) true k 3 ((cs.drop 1).take (Try.prog.cellsOf 3)) = some y1 := hf 1 _ g1
  rw [Try.cells3] at f1
  obtain ⟨m1, e1, _, w1⟩ := DataW.trod_int Try.underlying3 f1
  have f2 : DataW.trod enc Try.prog W 0 (fun _ => true) true k 3 ((cs.drop 2).take (Try.prog.cellsOf 3)) = some y2 := hf 2 _ g2
  rw [Try.cells3] at f2
  obtain ⟨m2, e2, _, w2⟩ := DataW.trod_int Try.underlying3 f2
  have f3 : DataW.trod enc Try.prog W 0 (fun _ => true) true k 3 ((cs.drop 3).take (Try.prog.cellsOf 3)) = some y3 := hf 3 _ g3
  rw [Try.cells3] at f3
  obtain ⟨m3, e3, _, w3⟩ := DataW.trod_int Try.underlying3 f3
  have f4 : DataW.trod enc Try.prog W 0 (fun _ => true) true k 3 ((cs.drop 4).take (Try.prog.cellsOf 3)) = some y4 := hf 4 _ g4
  rw [Try.cells3] at f4
  obtain ⟨m4, e4, _, w4⟩ := DataW.trod_int Try.underlying3 f4
  have f5 : DataW.trod enc Try.prog W 0 (fun _ => true) true k 3 ((cs.drop 5).take (Try.prog.cellsOf 3)) = some y5 := hf 5 _ g5
  rw [Try.cells3] at f5
  obtain ⟨m5, e5, _, w5⟩ := DataW.trod_int Try.underlying3 f5
  have f6 : DataW.trod enc Try.prog W 0 (fun _ => true) true k 3 ((cs.drop 6).take (Try.prog.cellsOf 3)) = some y6 := hf 6 _ g6
  rw [Try.cells3] at f6
  obtain ⟨m6, e6, _, w6⟩ := DataW.trod_int Try.underlying3 f6
  have f7 : DataW.trod enc Try.prog W 0 (fun _ => true) true k 3 ((cs.drop 7).take (Try.prog.cellsOf 3)) = some y7 := hf 7 _ g7
  rw [Try.cells3] at f7
  obtain ⟨m7, e7, _, w7⟩ := DataW.trod_int Try.underlying3 f7
  have f8 : DataW.trod enc Try.prog W 0 (fun _ => true) true k 9 ((cs.drop 8).take (Try.prog.cellsOf 9)) = some y8 := hf 8 _ g8
  rw [Try.cells9] at f8
  have z98 : Fit 9 y8.1 := fit_agg under33 hz9 g8 rfl
  obtain ⟨s8, e8, x8, _⟩ := DataW.trod_string Try.underlying9 f8
  have n8 : s8.size ≤ 140737488351232 := by
   rw [x8] at z98
   exact fit_str z98
  have f9 : DataW.trod enc Try.prog W 0 (fun _ => true) true k 23 ((cs.drop 9).take (Try.prog.cellsOf 23)) = some y9 := hf 9 _ g9
  rw [Try.cells23] at f9
  have z99 : Fit 23 y9.1 := fit_agg under33 hz9 g9 rfl
  obtain ⟨p9, e9, in9, ln9⟩ := open_bytes z99 f9
  have f10 : DataW.trod enc Try.prog W 0 (fun _ => true) true k 29 ((cs.drop 10).take (Try.prog.cellsOf 29)) = some y10 := hf 10 _ g10
  rw [Try.cells29] at f10
  have z910 : Fit 29 y10.1 := fit_agg under33 hz9 g10 rfl
  obtain ⟨z10, e10, i10, s10⟩ := rt_cells (by rw [List.length_take, List.length_drop, hl]; rfl) z910 f10
  have f11 : DataW.trod enc Try.prog W 0 (fun _ => true) true k 23 ((cs.drop 20).take (Try.prog.cellsOf 23)) = some y11 := hf 11 _ g11
  rw [Try.cells23] at f11
  have z911 : Fit 23 y11.1 := fit_agg under33 hz9 g11 rfl
  obtain ⟨p11, e11, in11, ln11⟩ := open_bytes z911 f11
  have f12 : DataW.trod enc Try.prog W 0 (fun _ => true) true k 31 ((cs.drop 21).take (Try.prog.cellsOf 31)) = some y12 := hf 12 _ g12
  rw [Try.cells31] at f12
  have z912 : Fit 31 y12.1 := fit_agg under33 hz9 g12 rfl
  obtain ⟨z12, e12, i12⟩ := wt_cells (by rw [List.length_take, List.length_drop, hl]; rfl) z912 f12
  have hcs : cs = (cs.drop 0).take 1 ++ ((cs.drop 1).take 1 ++ ((cs.drop 2).take 1 ++ ((cs.drop 3).take 1 ++ ((cs.drop 4).take 1 ++ ((cs.drop 5).take 1 ++ ((cs.drop 6).take 1 ++ ((cs.drop 7).take 1 ++ ((cs.drop 8).take 1 ++ ((cs.drop 9).take 1 ++ ((cs.drop 10).take 10 ++ ((cs.drop 20).take 1 ++ ((cs.drop 21).take 9)))))))))))) := by
   have s0 : cs.drop 0 = (cs.drop 0).take 1 ++ cs.drop 1 := (seg_drop cs 0 1)
   have s1 : cs.drop 1 = (cs.drop 1).take 1 ++ cs.drop 2 := (seg_drop cs 1 1)
   have s2 : cs.drop 2 = (cs.drop 2).take 1 ++ cs.drop 3 := (seg_drop cs 2 1)
   have s3 : cs.drop 3 = (cs.drop 3).take 1 ++ cs.drop 4 := (seg_drop cs 3 1)
   have s4 : cs.drop 4 = (cs.drop 4).take 1 ++ cs.drop 5 := (seg_drop cs 4 1)
   have s5 : cs.drop 5 = (cs.drop 5).take 1 ++ cs.drop 6 := (seg_drop cs 5 1)
   have s6 : cs.drop 6 = (cs.drop 6).take 1 ++ cs.drop 7 := (seg_drop cs 6 1)
   have s7 : cs.drop 7 = (cs.drop 7).take 1 ++ cs.drop 8 := (seg_drop cs 7 1)
   have s8 : cs.drop 8 = (cs.drop 8).take 1 ++ cs.drop 9 := (seg_drop cs 8 1)
   have s9 : cs.drop 9 = (cs.drop 9).take 1 ++ cs.drop 10 := (seg_drop cs 9 1)
   have s10 : cs.drop 10 = (cs.drop 10).take 10 ++ cs.drop 20 := (seg_drop cs 10 10)
   have s11 : cs.drop 20 = (cs.drop 20).take 1 ++ cs.drop 21 := (seg_drop cs 20 1)
   have s12 : cs.drop 21 = (cs.drop 21).take 9 := (List.take_of_length_le (by rw [List.length_drop, hl]; exact Nat.le_refl _)).symm
   conv => lhs; rw [show cs = cs.drop 0 from rfl]
   conv => lhs; rw [s0]
   conv => lhs; rhs; rw [s1]
   conv => lhs; rhs; rhs; rw [s2]
   conv => lhs; rhs; rhs; rhs; rw [s3]
   conv => lhs; rhs; rhs; rhs; rhs; rw [s4]
   conv => lhs; rhs; rhs; rhs; rhs; rhs; rw [s5]
   conv => lhs; rhs; rhs; rhs; rhs; rhs; rhs; rw [s6]
   conv => lhs; rhs; rhs; rhs; rhs; rhs; rhs; rhs; rw [s7]
   conv => lhs; rhs; rhs; rhs; rhs; rhs; rhs; rhs; rhs; rw [s8]
   conv => lhs; rhs; rhs; rhs; rhs; rhs; rhs; rhs; rhs; rhs; rw [s9]
   conv => lhs; rhs; rhs; rhs; rhs; rhs; rhs; rhs; rhs; rhs; rhs; rw [s10]
   conv => lhs; rhs; rhs; rhs; rhs; rhs; rhs; rhs; rhs; rhs; rhs; rhs; rw [s11]
   conv => lhs; rhs; rhs; rhs; rhs; rhs; rhs; rhs; rhs; rhs; rhs; rhs; rhs; rw [s12]
  rw [e0, e1, e2, e3, e4, e5, e6, e7, e8, e9, e10, e11, e12] at hcs
  exact ⟨⟨m0, m1, m2, m3, m4, m5, m6, m7, s8, p9, z10, p11, z12⟩, hcs.trans (by simp [Ak.C]), ⟨wf_i64 w0, wf_i64 w1, wf_i64 w2, wf_i64 w3, wf_i64 w4, wf_i64 w5, wf_i64 w6, wf_i64 w7, n8, in9, Nat.le_trans ln9 (by decide), i10, s10, in11, Nat.le_trans ln11 (by decide), i12⟩⟩
structure Akp (W : World) (ad : Option Addr) (cap : Nat) (l : List Ak) : Prop where
 le : l.length ≤ cap
 nil : ad = none → cap = 0
 ins : ∀ (i : Nat) (x : Ak), l[i]? = some x → AI W x
 read : 0 < l.length → ∃ a o, ad = some ⟨a, o, none⟩ ∧ a < W.heap.size ∧ ∀ (i : Nat) (x : Ak), l[i]? = some x → ∀ (j : Nat) (u : Value), x.C[j]? = some u → W.cell? ⟨a, o + i * 30 + j, none⟩ = some u
def AkpRow (W : World) (v : Value) : Prop := ∃ (ad : Option Addr) (cap : Nat) (l : List Ak), v = .slice ad l.length cap ∧ Akp W ad cap l ∧ l.length ≤ 9223372036854775807
theorem open_aks {H : Type} (enc : TypeId × Value → H) (W : World) (v : Value) {d : DataW H} {ps : List MemPlace} (base : Nat) (hz9 : Fit 22 d) (hval : Value.okWide Try.prog W .any base 22 v) (h : DataW.Trod enc Try.prog W 0 (fun _ => true) true 22 v d ps) : AkpRow W v := by
 obtain ⟨a1, len1, cap1, rfl⟩ := okWide_slice Try.underlying22 hval
 obtain ⟨fuel, hf⟩ := h
 rcases DataW.trod_slice Try.underlying22 hf with ⟨hcs, hx⟩ | ⟨a, len, cap, elems, rest, n, _, hcs, hx, hb, hl, hm, hlen, hi, _, _⟩
 ·simp [Value.cells] at hcs
  obtain ⟨rfl, rfl, rfl⟩ := hcs
  exact ⟨none, 0, [], rfl, ⟨Nat.le_refl _, fun _ => rfl, fun i x hx => by simp at hx, fun h => absurd h (Nat.lt_irrefl 0)⟩, Nat.zero_le _⟩
 simp [Value.cells] at hcs
 obtain ⟨rfl, rfl, rfl⟩ := hcs
 have hd : d = .slice (elems.map (·.1)) (rest.map (·.1)) := congrArg Prod.fst hx
 rw [hd] at hz9
 have hall := (fit_slice Try.underlying22 hz9).2
 have key : ∀ i : Fin len1, ∃ z : Ak, AI W z ∧ ∀ (j : Nat) (u : Value), z.C[j]? = some u → W.cell? ((a.add (i.1 * 30)).add j) = some u := fun i => by
  have h1 := hi i.1 i.2
  have hy : elems[i.1]? = some (elems[i.1]'(by rw [hlen]; exact i.2)) := List.getElem?_eq_getElem _
  rw [hy] at h1
  obtain ⟨cs', hc, ht'⟩ := Option.bind_eq_some_iff.1 h1
  rw [Try.cells33] at hc
  obtain ⟨_, hcl, hat⟩ := World.cells?_some hc
  obtain ⟨z, z1, z3⟩ := ak_cells hcl (hall _ (List.mem_map_of_mem (List.mem_of_getElem? hy))) ht'
  refine ⟨z, z3, fun j u hu => ?_⟩
  have hj : j < 30 := by rw [← z1] at hu; have := (List.getElem?_eq_some_iff.1 hu).1; omega
  rw [hat j hj, z1]; exact hu
 obtain ⟨f, hff⟩ := Classical.axiomOfChoice key
 have hget : ∀ (i : Nat) (x : Ak), (List.ofFn f)[i]? = some x → ∃ hi : i < len1, x = f ⟨i, hi⟩ := fun i x hx => by
  have hlt : i < len1 := by have := (List.getElem?_eq_some_iff.1 hx).1; simpa using this
  refine ⟨hlt, ?_⟩
  rw [List.getElem?_ofFn, dif_pos hlt] at hx
  exact (Option.some.inj hx).symm
 refine ⟨some a, cap1, List.ofFn f, by simp, ⟨by simpa using hl, (fun h => by cases h), fun i x hx => ?_, fun h0 => ?_⟩, by have := Nat.le_trans hl hm; unfold maxLen at this; simpa using this⟩
 ·obtain ⟨h1, rfl⟩ := hget i x hx
  exact (hff ⟨i, h1⟩).1
 have hpos : 0 < len1 := by rwa [List.length_ofFn] at h0
 obtain ⟨ab, ao, spot⟩ := a
 have hc0 := (hff ⟨0, hpos⟩).2 0 _ rfl
 have hspot : spot = none := by simpa [Addr.add] using World.cell?_spot hc0
 subst hspot
 refine ⟨ab, ao, rfl, by have := World.block_lt_of_cell? W _ hc0; simpa [Addr.add] using this, fun i x hx => ?_⟩
 obtain ⟨h1, rfl⟩ := hget i x hx
 intro j u hu
 have z1 := (hff ⟨i, h1⟩).2 j u hu
 rw [Addr.add_lit, Addr.add_lit] at z1
 exact z1
theorem open_dg {H : Type} (enc : TypeId × Value → H) (W : World) (v : Value) {d : DataW H} {ps : List MemPlace} (base : Nat) (_ : Fit 36 d) (hval : Value.okWide Try.prog W .any base 36 v) (h : DataW.Trod enc Try.prog W 0 (fun _ => true) true 36 v d ps) :
  ∃ l : List UInt8, l.length = 16 ∧ v = digV l := open_dig enc W v Try.underlying36 Try.underlying5 Try.cells5 (by kernel_rfl) hval h
end Go.Proofs.Ytopamplmpfndlaa.Cl
namespace Go.Proofs.Ytopamplmpfndlaa.Cl
open Go.RowKit
section
variable {o : Oper} {a : Act} {w : World} {K : Act → World → Prop} {Q : Exit → Act → World → Prop}
theorem ld_askr (y : Operand) (g off : Nat) (x : Ak) {w9 : World} (hv : AI w9 x) (ho : o.op = .load 33 y) (ha : a.eval y = .pointer (some ⟨g, off, none⟩)) (h : w.rangeAt g off x.C) (hk : K (a.put o.dst x.V) w) : o.wp Try.prog a w K Q := by
 obtain ⟨dd, hd⟩ : ∃ d, Try.prog.underlying 33 = some d ∧ d.isRow = true := ⟨_, Try.underlying33, rfl⟩
 exact wp_load_mid 33 y ho g off ha x.C dd h hd.1 hd.2 (by rw [Try.sizeAk, Ak.len hv]) hk
end
def tupA (i : Nat) : Value → Value
 | .tuple a => a.getD i undef
 | _ => undef
def NL : List (Nat × (Value → Value)) := [(13, id), (14, tupA 0), (15, tupA 1), (16, tupA 2), (18, tupA 0), (20, tupA 2)]
def NV (l : Array Bool) (f : Nat → Value) : Prop := ∀ p ∈ NL, l.getD p.1 false = true → f p.1 = p.2 (f 12)
theorem NV.next {l : Array Bool} {f : Nat → Value} (h : NV l f) {i : Nat} {v : Value} (hi : i ≠ 12) (hv : ∀ p ∈ NL, p.1 = i → v = p.2 (f 12)) : NV (l.setIfInBounds i true) (upd f i v) := by
 intro p hp hl
 rw [upd_ne _ _ (Ne.symm hi)]
 by_cases e : p.1 = i
 ·rw [e, upd_same]; exact hv p hp e
 rw [upd_ne _ _ e]
 exact h p hp (by rw [gset (fun e2 => e e2.symm)] at hl; exact hl)
theorem NV.call {l : Array Bool} {f : Nat → Value} {v : Value} (hn : ∀ p ∈ NL, l.getD p.1 false = false) : NV (l.setIfInBounds 12 true) (upd f 12 v) := by
 intro p hp hl
 have h12 : p.1 ≠ 12 := by
  unfold NL at hp
  simp only [List.mem_cons, List.not_mem_nil, or_false] at hp
  rcases hp with rfl | rfl | rfl | rfl | rfl | rfl <;> decide
 rw [gset (fun e => h12 e.symm), hn p hp] at hl
 cases hl
structure NC (base0 base W : World) (C : Nat) (k : List UInt8) (got : List Bool) (l : Array Bool) (f : Nat → Value) : Prop where
 pre : l.getD 12 false = false → ∃ rv, CS base0 W C 0 k rv got
 wish : l.getD 12 false = false → l.getD 11 false = true → ∃ y : Wt, f 11 = y.V ∧ WI W y
 blk : l.getD 17 false = true → ∃ i, f 17 = ptr0 i ∧ base0.heap.size ≤ i ∧ (l.getD 19 false = false → Bk W i 47 zeroQt.C.toArray)
 post : l.getD 12 false = true → ∃ (r : Pt) (q : Qt) (R : List UInt8 × Qc × Int) (rv : Value), f 12 = .tuple #[r.V, q.V, .int .i64 R.2.2] ∧ (∃ (m : Int) (y : Wc), 0 ≤ m ∧ m ≤ 7 ∧ R = makeF 0 got.length k m y) ∧ r.l = R.1 ∧ q.ct = R.2.1 ∧ PN W 0 r ∧ q.Ok ∧ PN W 0 q.sec ∧ CS base0 W C 0 k rv (gotM got R) ∧ (l.getD 19 false = true → ∃ i, f 17 = ptr0 i ∧ QB W i q)
section
variable {base0 base W W' : World} {C : Nat} {k : List UInt8} {got : List Bool} {l : Array Bool} {f : Nat → Value}
theorem NC.ex (h : NC base0 base W C k got l f) {i : Nat} {v : Value} (h11 : i ≠ 11) (h12 : i ≠ 12) (h17 : i ≠ 17) (h19 : i ≠ 19) (x : Ex W W') : NC base0 base W' C k got (l.setIfInBounds i true) (upd f i v) := by
 refine ⟨fun e => ?_, fun e e2 => ?_, fun e => ?_, fun e => ?_⟩
 ·rw [gset h12] at e
  obtain ⟨rv, hs⟩ := h.pre e
  exact ⟨rv, hs.ext x⟩
 ·rw [gset h12] at e
  rw [gset h11] at e2
  rw [upd_ne _ _ (Ne.symm h11)]
  obtain ⟨y, a, b⟩ := h.wish e e2
  exact ⟨y, a, b.ext x⟩
 ·rw [gset h17] at e
  rw [gset h19, upd_ne _ _ (Ne.symm h17)]
  obtain ⟨i, a, b, c⟩ := h.blk e
  exact ⟨i, a, b, fun e9 => (c e9).ext x⟩
 rw [gset h12] at e
 rw [gset h19, upd_ne _ _ (Ne.symm h12), upd_ne _ _ (Ne.symm h17)]
 obtain ⟨r, q, R, rv, a, b, c, d, e1, e2, e3, e4, e5⟩ := h.post e
 exact ⟨r, q, R, rv, a, b, c, d, e1.ext x, e2, e3.ext x, e4.ext x, fun e9 => (e5 e9).elim fun i hi => ⟨i, hi.1, hi.2.ext x⟩⟩
theorem NC.alloc (h : NC base0 base W C k got l f) (n19 : l.getD 19 false = false) (hb : base0.heap.size ≤ W.heap.size) : NC base0 base (W.alloc (.cells zeroQt.C.toArray 47)) C k got (l.setIfInBounds 17 true) (upd f 17 (ptr0 W.heap.size)) := by
 have x : Ex W (W.alloc (.cells zeroQt.C.toArray 47)) := Ex.alloc _ _
 refine ⟨fun e => ?_, fun e e2 => ?_, fun e => ⟨_, upd_same _ _ _, hb, fun _ => Bk.new rfl _ _⟩, fun e => ?_⟩
 ·rw [gset (by decide)] at e
  obtain ⟨rv, hs⟩ := h.pre e
  exact ⟨rv, hs.ext x⟩
 ·rw [gset (by decide)] at e
  rw [gset (by decide)] at e2
  rw [upd_ne _ _ (by decide)]
  obtain ⟨y, a, b⟩ := h.wish e e2
  exact ⟨y, a, b.ext x⟩
 rw [gset (by decide)] at e
 rw [gset (by decide), upd_ne _ _ (by decide)]
 obtain ⟨r, q, R, rv, a, b, c, d, e1, e2, e3, e4, e5⟩ := h.post e
 refine ⟨r, q, R, rv, a, b, c, d, e1.ext x, e2, e3.ext x, e4.ext x, fun e9 => ?_⟩
 rw [n19] at e9; cases e9
theorem NC.call (h : NC base0 base W C k got l f) (n19 : l.getD 19 false = false) (hsz : 12 < l.size) {r : Pt} {q : Qt} {R : List UInt8 × Qc × Int} {rv rv' : Value} (hs : CS base0 W C 0 k rv got) (hR : ∃ (m : Int) (y : Wc), 0 ≤ m ∧ m ≤ 7 ∧ R = makeF 0 got.length k m y) (h1 : r.l = R.1) (h2 : q.ct = R.2.1) (h3 : PN W' 0 r) (h4 : q.Ok) (h5 : PN W' 0 q.sec) (t : Tc C rv.ownBlock W W') (hc : CI W' base0.heap.size C 0 k rv' (gotM got R)) :
  NC base0 base W' C k got (l.setIfInBounds 12 true) (upd f 12 (.tuple #[r.V, q.V, .int .i64 R.2.2])) := by
 refine ⟨fun e => ?_, fun e => ?_, fun e => ?_, fun _ => ⟨r, q, R, rv', upd_same _ _ _, hR, h1, h2, h3, h4, h5, hs.tc t hc, fun e9 => ?_⟩⟩
 ·exact absurd e (by rw [set_new hsz]; decide)
 ·exact absurd e (by rw [set_new hsz]; decide)
 ·rw [gset (by decide)] at e
  rw [gset (by decide), upd_ne _ _ (by decide)]
  obtain ⟨i, a, b, c⟩ := h.blk e
  refine ⟨i, a, b, fun e9 => ?_⟩
  have hb := c e9
  refine t.bk hb ?_ (ownB_ne hs.c.row hb (by decide))
  rintro rfl
  exact absurd (Bk.ty hb hs.c.blk) (by decide)
 rw [gset (by decide), n19] at e9; cases e9
end
theorem NC.store {base0 base W W' : World} {C : Nat} {k : List UInt8} {got : List Bool} {l : Array Bool} {f : Nat → Value} {v : Value} (h : NC base0 base W C k got l f) (n19 : l.getD 19 false = false) (l12 : l.getD 12 false = true) (l17 : l.getD 17 false = true) (hsz : 19 < l.size)
  {r : Pt} {q : Qt} {i : Nat} {R : List UInt8 × Qc × Int} {rv : Value} (he : f 12 = .tuple #[r.V, q.V, .int .i64 R.2.2]) (hR : ∃ (m : Int) (y : Wc), 0 ≤ m ∧ m ≤ 7 ∧ R = makeF 0 got.length k m y) (h1 : r.l = R.1) (h2 : q.ct = R.2.1) (h3 : PN W 0 r) (h4 : q.Ok) (h5 : PN W 0 q.sec) (hs : CS base0 W C 0 k rv (gotM got R))
  (hi : f 17 = ptr0 i) (hlo : base0.heap.size ≤ i) (hB : Bk W i 47 zeroQt.C.toArray) (hd : QB W' i q) (ho : Only i W W') : NC base0 base W' C k got (l.setIfInBounds 19 true) (upd f 19 v) := by
 refine ⟨fun e => ?_, fun e => ?_, fun e => ⟨i, by rw [upd_ne _ _ (by decide)]; exact hi, hlo, fun e9 => ?_⟩, fun _ => ⟨r, q, R, rv, by rw [upd_ne _ _ (by decide)]; exact he, hR, h1, h2, h3.onlyT ho hB (by decide), h4, h5.onlyT ho hB (by decide), ⟨?_, hs.c.only9 ho hB (by decide) (by decide)⟩, fun _ => ⟨i, by rw [upd_ne _ _ (by decide)]; exact hi, hd⟩⟩⟩
 ·rw [gset (by decide), l12] at e; cases e
 ·rw [gset (by decide), l12] at e; cases e
 ·exact absurd e9 (by rw [set_new hsz]; decide)
 exact ho.below base0.heap.size hlo _ hs.x
end Go.Proofs.Ytopamplmpfndlaa.Cl
