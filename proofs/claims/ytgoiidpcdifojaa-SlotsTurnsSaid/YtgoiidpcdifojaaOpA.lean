/- an array of bytes that comes in -/
import Derived.Test.YtgoiidpcdifojaaSmG
import Derived.ProofKit
import Derived.OpenShut
namespace Go.Proofs.Ytgoiidpcdifojaa.Sm
open Go.ChangeShapes Go.WideShapes Go.ChangeAt Go.RowKit
def byOf : Value → UInt8
  | .int _ z => UInt8.ofNat z.toNat
  | _ => 0
theorem byOf_int (b : UInt8) : byOf (.int .u8 (b.toNat : Int)) = b := by
  unfold byOf; simp
theorem open_row {H : Type} {enc : TypeId × Value → H} {P : Program} {w : World} {base : Nat} {spare : Nat → Bool} {held : Bool} {m n : Nat} {t e : TypeId} {cs : List Value} {x : DataW H × List MemPlace}
    (ht : P.underlying t = some (.array n e)) (he : P.underlying e = some (.int .u8)) (hce : P.cellsOf e = 1) (hct : P.cellsOf t = n) (h : DataW.trod enc P w base spare held m t cs = some x) :
    ∃ l : List UInt8, l.length = n ∧ cs = Lib.byteCells l := by
  obtain ⟨xs, m', _, _, hl, hx, hi⟩ := DataW.trod_array ht h
  rw [hct] at hl
  have key : ∀ i, i < n → ∃ b : UInt8, cs[i]? = some (.int .u8 (b.toNat : Int)) := by
    intro i h1
    have h2 := hi i h1
    rw [hce, Nat.mul_one, List.getElem?_eq_getElem (by omega)] at h2
    obtain ⟨z, h3, _, h5⟩ := DataW.trod_int he h2
    have hz : 0 ≤ z ∧ z < 256 := by
      simp [Lit.wf, IntKind.min, IntKind.max, IntKind.signed, IntKind.bits] at h5
      omega
    refine ⟨UInt8.ofNat z.toNat, ?_⟩
    have h6 : (cs.drop i).take 1 = [cs[i]] := by
      rw [List.drop_eq_getElem_cons (by omega)]; rfl
    rw [h6] at h3
    injection h3 with h3
    rw [List.getElem?_eq_getElem (by omega), h3]
    have : z.toNat < 256 := by omega
    rw [UInt8.toNat_ofNat_of_lt' (by simpa using this)]
    simp; omega
  refine ⟨(List.range n).map fun i => byOf (cs.getD i undef), by simp, ?_⟩
  apply List.ext_getElem?
  intro i
  by_cases h1 : i < n
  · obtain ⟨b, hb⟩ := key i h1
    have e1 : cs.getD i undef = .int .u8 (b.toNat : Int) := by simp [List.getD, hb]
    rw [hb]
    simp only [Lib.byteCells, List.getElem?_map, List.getElem?_range h1, Option.map_some, e1, byOf_int]
  · rw [List.getElem?_eq_none (by omega), List.getElem?_eq_none (by simp [Lib.byteCells]; omega)]
theorem open_dig {H : Type} (enc : TypeId × Value → H) {P : Program} (w : World) {b0 base : Nat} {spare : Nat → Bool} {held : Bool} {n : Nat} {t e : TypeId} {r : Reach} (v : Value) {d : DataW H} {ps : List MemPlace}
    (ht : P.underlying t = some (.array n e)) (he : P.underlying e = some (.int .u8)) (hce : P.cellsOf e = 1) (hct : P.cellsOf t = n) (hval : Value.okWide P w r b0 t v) (h : DataW.Trod enc P w base spare held t v d ps) :
    ∃ l : List UInt8, l.length = n ∧ v = digV l := by
  obtain ⟨m, hm⟩ := h
  simp only [Value.okWide, ht] at hval
  obtain ⟨cs, rfl, _, _⟩ := hval
  obtain ⟨l, hl, hc⟩ := open_row ht he hce hct hm
  refine ⟨l, hl, ?_⟩
  unfold digV
  rw [← hc]
  simp [Value.cells]
theorem Try.cellsDig : Try.prog.cellsOf 59 = 16 := by kernel_rfl
theorem Try.cellsU8 : Try.prog.cellsOf 5 = 1 := by kernel_rfl
set_option maxRecDepth 100000 in
theorem open_digest {H : Type} (enc : TypeId × Value → H) (W : World) (v : Value) {d : DataW H} {ps : List MemPlace} (base : Nat) (hval : Value.okWide Try.prog W .any base 59 v) (h : DataW.Trod enc Try.prog W 0 (fun _ => true) true 59 v d ps) :
    ∃ l : List UInt8, l.length = 16 ∧ v = digV l := open_dig enc W v Try.underlying59 Try.underlying5 Try.cellsU8 Try.cellsDig hval h
end Go.Proofs.Ytgoiidpcdifojaa.Sm
