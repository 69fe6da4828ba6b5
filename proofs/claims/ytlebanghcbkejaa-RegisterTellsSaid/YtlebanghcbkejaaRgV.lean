/- a register that comes in -/
import Derived.Test.YtlebanghcbkejaaRgT
import Derived.Test.YtlebanghcbkejaaRgO
import Derived.ChangeSame
namespace Go.Proofs.Ytlebanghcbkejaa
open Go.ChangeShapes Go.WideShapes Go.ChangeAt Go.RowKit
theorem cut20 {α : Type} (L : List α) (h : L.length = 20) : L = L.take 1 ++ ((L.drop 1).take 1 ++ ((L.drop 2).take 1 ++ ((L.drop 3).take 16 ++ (L.drop 19).take 1))) := by
  have e4 : (L.drop 19).take 1 = L.drop 19 := List.take_of_length_le (by simp; omega)
  have e3 : (L.drop 3).take 16 ++ L.drop 19 = L.drop 3 := by
    have := List.take_append_drop 16 (L.drop 3); rwa [List.drop_drop] at this
  have e2 : (L.drop 2).take 1 ++ L.drop 3 = L.drop 2 := by
    have := List.take_append_drop 1 (L.drop 2); rwa [List.drop_drop] at this
  have e1 : (L.drop 1).take 1 ++ L.drop 2 = L.drop 1 := by
    have := List.take_append_drop 1 (L.drop 1); rwa [List.drop_drop] at this
  rw [e4, e3, e2, e1, List.take_append_drop]
theorem Try.cells22 : Try.prog.cellsOf 22 = 1 := by kernel_rfl
theorem Try.cells3 : Try.prog.cellsOf 3 = 1 := by kernel_rfl
theorem Try.cells27 : Try.prog.cellsOf 27 = 20 := by kernel_rfl
theorem open_reg {H : Type} (enc : TypeId × Value → H) (W : World) (v : Value) {d : DataW H} {ps : List MemPlace} (base : Nat) (hval : Value.okWide Try.prog W .any base 27 v) (h : DataW.Trod enc Try.prog W 0 (fun _ => true) true 27 v d ps) :
    ∃ r : Rg, r.Ok ∧ r.In ∧ v = r.V := by
  obtain ⟨m, hm⟩ := h
  obtain ⟨cs, rfl, hsz⟩ := okWide_struct Try.underlying27 hval
  obtain ⟨xs, n, _, _, hl, hlen, hf⟩ := DataW.trod_struct Try.underlying27 hm
  have f0 := hf 0 ⟨ "Boot", 22, 0, false, "", "", 0⟩ rfl
  have f1 := hf 1 ⟨ "Count", 22, 1, false, "", "", 8⟩ rfl
  have f2 := hf 2 ⟨ "Base", 22, 2, false, "", "", 16⟩ rfl
  have f3 := hf 3 ⟨ "Head", 25, 3, false, "", "", 24⟩ rfl
  have f4 := hf 4 ⟨ "Point", 3, 19, false, "", "", 40⟩ rfl
  match xs, hlen with
  | [y0, y1, y2, y3, y4], _ =>
    simp only [List.getElem?_cons_zero, List.getElem?_cons_succ] at f0 f1 f2 f3 f4
    obtain ⟨z0, g0, _, w0⟩ := DataW.trod_int Try.underlying22 f0
    obtain ⟨z1, g1, _, w1⟩ := DataW.trod_int Try.underlying22 f1
    obtain ⟨z2, g2, _, w2⟩ := DataW.trod_int Try.underlying22 f2
    obtain ⟨z4, g4, _, w4⟩ := DataW.trod_int Try.underlying3 f4
    obtain ⟨l, ll, g3⟩ := open_row Try.underlying25 Try.underlying5 Try.cellsU8 Try.cellsDig f3
    rw [Try.cells22] at g0 g1 g2
    rw [Try.cellsDig] at g3
    rw [Try.cells3] at g4
    rw [Try.cells27] at hl
    have hL : (Value.agg cs).cells.toList = cs.toList := by simp [Value.cells]
    rw [hL] at g0 g1 g2 g3 g4
    have hl20 : cs.toList.length = 20 := by rw [hL] at hl; exact hl
    have hc := cut20 cs.toList hl20
    simp only [List.drop_zero] at g0
    rw [g0, g1, g2, g3, g4] at hc
    simp [Lit.wf, IntKind.min, IntKind.max, IntKind.signed, IntKind.bits] at w0 w1 w2 w4
    refine ⟨⟨z0, z1, z2, l, z4⟩, ⟨by show 0 ≤ z0; omega, by show 0 ≤ z1; omega, by show 0 ≤ z2; omega, ll⟩, ⟨by show z0 < _; omega, by show z1 < _; omega, by show _ ≤ z4; omega, by show z4 ≤ _; omega⟩, ?_⟩
    unfold Rg.V Rg.C
    congr 1
    apply Array.ext'
    rw [hc]; rfl
theorem registerTells_law (v0 v1 v2 : Value) (n : Int) (w : World) (h0 : ∃ r : Rg, r.Ok ∧ r.In ∧ v0 = r.V) (h1 : ∃ r : Rg, r.Ok ∧ r.In ∧ v1 = r.V) (h2 : ∃ l : List UInt8, l.length = 16 ∧ v2 = digV l) (h3 : (Lit.int .u64 n).wf = true) :
    Calls Try.prog 4 #[v0, v1, v2, .int .u64 n] w fun e w' => e = .returned (.bool true) ∧ Below w.heap.size w w' := by
  obtain ⟨r, ok, hi, rfl⟩ := h0
  obtain ⟨s, ok', hi', rfl⟩ := h1
  obtain ⟨H, hH, rfl⟩ := h2
  simp [Lit.wf, IntKind.min, IntKind.max, IntKind.signed, IntKind.bits] at h3
  exact tells_any r s ok ok' hi hi' H hH n (by omega) (by omega) w
end Go.Proofs.Ytlebanghcbkejaa
