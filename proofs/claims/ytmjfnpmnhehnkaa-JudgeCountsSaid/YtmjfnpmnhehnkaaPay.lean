/- Vmf, Jl, Jm -/
import Derived.Test.YtmjfnpmnhehnkaaPax
import Derived.ChangeSlices
import Derived.Deep.Slices
import Derived.Deep.Fields
import Derived.OpenShut
namespace Go.Proofs.Ytmjfnpmnhehnkaa
open Go.ChangeShapes Go.WideShapes Go.ChangeAt Go.RowKit Go.Deep
theorem wf_u64 {n : Int} (h : (Lit.int .u64 n).wf = true) : 0 ≤ n ∧ n < 18446744073709551616 := by
 simp [Lit.wf, IntKind.min, IntKind.max, IntKind.signed, IntKind.bits] at h; omega
def fields76 : List Field := [⟨ "Op", 3, 0, false, "", "", 0⟩, ⟨ "ID", 3, 1, false, "", "", 8⟩, ⟨ "Pin", 3, 2, false, "", "", 16⟩, ⟨ "Owner", 3, 3, false, "", "", 24⟩, ⟨ "Limit", 3, 4, false, "", "", 32⟩, ⟨ "Client", 3, 5, false, "", "", 40⟩, ⟨ "Num", 24, 6, false, "", "", 48⟩, ⟨ "Secret", 25, 7, false, "", "", 56⟩]
def KpRow (W : World) (v : Value) : Prop := ∃ (ad : Option Addr) (cap : Nat) (l : List Kq), v = .slice ad l.length cap ∧ Kp.In ad cap l W ∧ l.length ≤ 9223372036854775807
end Go.Proofs.Ytmjfnpmnhehnkaa
namespace Go.Proofs.Ytmjfnpmnhehnkaa
open Go.ChangeShapes Go.WideShapes Go.ChangeAt Go.RowKit Go.Deep
def byOf : Value → UInt8
  | .int _ z => UInt8.ofNat z.toNat
  | _ => 0
theorem byOf_int (b : UInt8) : byOf (.int .u8 (b.toNat : Int)) = b := by
  unfold byOf; simp
theorem open_row {H : Type} {enc : TypeId × Value → H} {P : Program} {w : World} {base : Nat} {spare : Nat → Bool} {held : Bool} {m n : Nat} {t e : TypeId} {cs : List Value} {x : DataW H × List MemPlace}
    (ht : P.underlying t = some (.array n e)) (he : P.underlying e = some (.int .u8)) (hce : P.cellsOf e = 1) (hct : P.cellsOf t = n) (h : DataW.trod enc P w base spare held m t cs = some x) :
    ∃ l : List UInt8, l.length = n ∧ cs = Lib.byteCells l := by
  obtain ⟨xs, m', _, _, hl, hx, hi⟩ := DataW.trod_array ht h
  rw [hct] at hl
  have key : ∀ i, i < n → ∃ b : UInt8, cs[i]? = some (.int .u8 (b.toNat : Int)) := by
    intro i h1
    have h2 := hi i h1
    rw [hce, Nat.mul_one, List.getElem?_eq_getElem (by omega)] at h2
    obtain ⟨z, h3, _, h5⟩ := DataW.trod_int he h2
    have hz : 0 ≤ z ∧ z < 256 := by
      simp [Lit.wf, IntKind.min, IntKind.max, IntKind.signed, IntKind.bits] at h5
      omega
    refine ⟨UInt8.ofNat z.toNat, ?_⟩
    have h6 : (cs.drop i).take 1 = [cs[i]] := by
      rw [List.drop_eq_getElem_cons (by omega)]; rfl
    rw [h6] at h3
    injection h3 with h3
    rw [List.getElem?_eq_getElem (by omega), h3]
    have : z.toNat < 256 := by omega
    rw [UInt8.toNat_ofNat_of_lt' (by simpa using this)]
    simp; omega
  refine ⟨(List.range n).map fun i => byOf (cs.getD i undef), by simp, ?_⟩
  apply List.ext_getElem?
  intro i
  by_cases h1 : i < n
  · obtain ⟨b, hb⟩ := key i h1
    have e1 : cs.getD i undef = .int .u8 (b.toNat : Int) := by simp [List.getD, hb]
    rw [hb]
    simp only [Lib.byteCells, List.getElem?_map, List.getElem?_range h1, Option.map_some, e1, byOf_int]
  rw [List.getElem?_eq_none (by omega), List.getElem?_eq_none (by simp [Lib.byteCells]; omega)]
theorem open_dig {H : Type} (enc : TypeId × Value → H) {P : Program} (w : World) {b0 base : Nat} {spare : Nat → Bool} {held : Bool} {n : Nat} {t e : TypeId} {r : Reach} (v : Value) {d : DataW H} {ps : List MemPlace}
    (ht : P.underlying t = some (.array n e)) (he : P.underlying e = some (.int .u8)) (hce : P.cellsOf e = 1) (hct : P.cellsOf t = n) (hval : Value.okWide P w r b0 t v) (h : DataW.Trod enc P w base spare held t v d ps) :
    ∃ l : List UInt8, l.length = n ∧ v = digV l := by
  obtain ⟨m, hm⟩ := h
  simp only [Value.okWide, ht] at hval
  obtain ⟨cs, rfl, _, _⟩ := hval
  obtain ⟨l, hl, hc⟩ := open_row ht he hce hct hm
  refine ⟨l, hl, ?_⟩
  unfold digV
  rw [← hc]
  simp [Value.cells]
theorem Try.cells32 : Try.prog.cellsOf 32 = 4 := by kernel_rfl
set_option maxRecDepth 100000 in
theorem open_id {H : Type} (enc : TypeId × Value → H) (W : World) (v : Value) {d : DataW H} {ps : List MemPlace} (base : Nat) (hval : Value.okWide Try.prog W .any base 32 v) (h : DataW.Trod enc Try.prog W 0 (fun _ => true) true 32 v d ps) :
    ∃ l : List UInt8, l.length = 4 ∧ v = digV l := open_dig enc W v Try.underlying32 Try.underlying5 Try.cells5 Try.cells32 hval h
def fields83 : List Field := [⟨ "Why", 45, 0, false, "", "", 0⟩, ⟨ "ID", 32, 1, false, "", "", 8⟩, ⟨ "Gen", 24, 5, false, "", "", 16⟩, ⟨ "Left", 3, 6, false, "", "", 24⟩, ⟨ "Secret", 25, 7, false, "", "", 32⟩, ⟨ "Client", 3, 8, false, "", "", 56⟩, ⟨ "Num", 24, 9, false, "", "", 64⟩]
def RpRow (W : World) (v : Value) : Prop := ∃ (ad : Option Addr) (cap : Nat) (l : List Rt), v = .slice ad l.length cap ∧ Rp.In ad cap l W ∧ l.length ≤ 9223372036854775807
end Go.Proofs.Ytmjfnpmnhehnkaa
namespace Go.Proofs.Ytmjfnpmnhehnkaa
open Go.RowKit
theorem counts_law (v1 v2 v3 : Value) (g : Int) (w : World) (h1 : RpRow w v1) (h2 : RpRow w v2) (h3 : ∃ l : List UInt8, l.length = 4 ∧ v3 = digV l) (hg : (Lit.int .u64 g).wf = true) : Calls Try.prog 14 #[v1, v2, v3, .int .u64 g] w fun e w' => e = .returned (.bool true) ∧ Below w.heap.size w w' := by
  obtain ⟨ad, cap, l, rfl, hin, hl⟩ := h1
  obtain ⟨ad2, cap2, o, rfl, hin2, hl2⟩ := h2
  obtain ⟨id, hid, rfl⟩ := h3
  exact counts_any ad cap l ad2 cap2 o id g w hl hl2 hin hin2 hid (wf_u64 hg)
end Go.Proofs.Ytmjfnpmnhehnkaa
