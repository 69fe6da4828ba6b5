/- a list that comes in -/
import Derived.Test.YtgoiidpcdifojaaTc
import Derived.ProofKit
import Derived.OpenShut
import Derived.ChangeSlices
import Derived.ChangeSame
namespace Go.Proofs.Ytgoiidpcdifojaa
open Go.ChangeShapes Go.WideShapes Go.ChangeAt Go.RowKit
theorem Try.cells42 : Try.prog.cellsOf 42 = 1 := by kernel_rfl
theorem Try.cells43 : Try.prog.cellsOf 43 = 1 := by kernel_rfl
theorem Try.cells45 : Try.prog.cellsOf 45 = 2 := by kernel_rfl
theorem cut2 {α : Type} (L : List α) (h : L.length = 2) : L = L.take 1 ++ (L.drop 1).take 1 := by
  match L, h with
  | [a, b], _ => rfl
def ListIn (W : World) (v : Value) : Prop := ∃ (u : Int) (p : Pt), v = LV u p ∧ p.In W W.heap.size ∧ p.l.length ≤ 9223372036854775807
set_option maxRecDepth 100000 in
theorem open_list {H : Type} (enc : TypeId × Value → H) (W : World) (v : Value) {d : DataW H} {ps : List MemPlace} (base : Nat) (hval : Value.okWide Try.prog W .any base 45 v) (h : DataW.Trod enc Try.prog W 0 (fun _ => true) true 45 v d ps) : ListIn W v := by
  obtain ⟨m, hm⟩ := h
  obtain ⟨cs, rfl, hsz⟩ := okWide_struct Try.underlying45 hval
  obtain ⟨xs, n, _, _, hl, hlen, hf⟩ := DataW.trod_struct Try.underlying45 hm
  have f0 := hf 0 ⟨ "Version", 42, 0, false, "", "", 0⟩ rfl
  have f1 := hf 1 ⟨ "Members", 43, 1, false, "", "", 8⟩ rfl
  match xs, hlen with
  | [y0, y1], _ =>
    have f0 : DataW.trod enc Try.prog W 0 (fun _ => true) true n 42 (((Value.agg cs).cells.toList.drop 0).take (Try.prog.cellsOf 42)) = some y0 := f0
    have f1 : DataW.trod enc Try.prog W 0 (fun _ => true) true n 43 (((Value.agg cs).cells.toList.drop 1).take (Try.prog.cellsOf 43)) = some y1 := f1
    rw [Try.cells42] at f0
    rw [Try.cells43] at f1
    rw [Try.cells45] at hl
    have hL : (Value.agg cs).cells.toList = cs.toList := by simp [Value.cells]
    rw [hL] at f0 f1 hl
    obtain ⟨u, g0, _, w0⟩ := DataW.trod_int Try.underlying42 f0
    have hc := cut2 cs.toList hl
    rw [List.drop_zero] at g0
    have key : ∀ p : Pt, (cs.toList.drop 1).take 1 = [p.V] → Value.agg cs = LV u p := fun p hp => by
      unfold LV
      congr 1
      apply Array.ext'
      rw [hc, g0, hp]; rfl
    rcases open_ints Try.underlying43 Try.underlying3 (by kernel_rfl) f1 with ⟨hcs, _⟩ | ⟨x, l, c, zs, hcs, _, hl1, hm1, hz, _, hcell, hwz⟩
    · exact ⟨u, nilP, key nilP hcs, nil_in W, Nat.zero_le _⟩
    · simp only [if_true] at hz
      have hzl : (zs.take l).length = l := by rw [List.length_take]; omega
      refine ⟨u, ⟨some x, c, zs.take l⟩, key _ (by rw [hcs]; unfold Pt.V; rw [hzl]), ⟨by show (zs.take l).length ≤ c; omega, (fun h => by cases h), fun h0 => ?_⟩, ?_⟩
      · have h0 : 0 < l := by have h1 : 0 < (zs.take l).length := h0; omega
        obtain ⟨b, off, spot⟩ := x
        have hc0 := hcell 0 (by omega)
        have hspot : spot = none := by simpa [Addr.add] using World.cell?_spot hc0
        subst hspot
        have hlt : b < W.heap.size := by
          have := World.block_lt_of_cell? W _ hc0
          simpa [Addr.add] using this
        refine ⟨b, off, rfl, hlt, fun i hi => ?_⟩
        have hi : i < l := by have h1 : i < (zs.take l).length := hi; omega
        have h1 := hcell i (by omega)
        rw [Addr.add_lit] at h1
        rw [h1]
        simp [List.getD, List.getElem?_take, hi]
      · show (zs.take l).length ≤ _
        rw [hzl]
        have h2 := Nat.le_trans hl1 hm1
        unfold maxLen at h2
        omega
theorem rosterTells_law (v0 v1 : Value) (a b k v : Int) (w : World) (h0 : ListIn w v0) (h1 : ListIn w v1) (_ : (Lit.int .i64 a).wf = true) (_ : (Lit.int .i64 b).wf = true) (_ : (Lit.int .i64 k).wf = true) (hv : (Lit.int .u64 v).wf = true) :
    Calls Try.prog 7 #[v0, v1, .int .i64 a, .int .i64 b, .int .i64 k, .int .u64 v] w fun e w' => e = .returned (.bool true) ∧ Below w.heap.size w w' := by
  obtain ⟨ua, p, rfl, hp, hL⟩ := h0
  obtain ⟨ub, q, rfl, hq, hL2⟩ := h1
  simp [Lit.wf, IntKind.min, IntKind.max, IntKind.signed, IntKind.bits] at hv
  exact tells14 ua ub p q a b k v (by omega) (by omega) w hp hq hL hL2
end Go.Proofs.Ytgoiidpcdifojaa
