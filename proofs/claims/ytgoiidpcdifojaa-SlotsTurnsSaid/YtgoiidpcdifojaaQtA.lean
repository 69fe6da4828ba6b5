/- a region that draws its order, whose operations read, and whose calls lay blocks: one walk -/
import Derived.Test.YtgoiidpcdifojaaSmI
namespace Go.Proofs.Ytgoiidpcdifojaa.Sm
open Go.RowKit
/-- as w1 was, below w1's end -/
def Cls (w1 w : World) : Prop := Below w1.heap.size w1 w
theorem Cls.self (w1 : World) : Cls w1 w1 := Below.refl _ _
theorem cls_all (w1 : World) (p : Prop) : (∀ w, Cls w1 w → p) ↔ p := ⟨fun h => h w1 (Cls.self w1), fun h _ _ => h⟩
theorem Cls.on {w1 w w' : World} (h : Cls w1 w) (k : Below w.heap.size w w') : Cls w1 w' := Below.trans h (k.mono h.size)
theorem wp_region_cls {P : Program} {id : Nat} {Q : Exit → Act → World → Prop} {a : Act} {w : World} {l : List Oper} (hm : P.follows .mixedOrders = true) (hB : Region.lexB .any l.toArray = true)
    (h : wpQuiet P l.toArray (Cls w) (fun a' => ∀ w', Cls w w' → Q .normal a' w') l a) : (Code.region id l.toArray true).wp P Q a w :=
  wp_region_quiet (C := Cls w) hm hB (Below.refl _ w).drew (by simpa using h)
/-- a call whose contract lays blocks -/
theorem cls_call {P : Program} {f : FuncId} {args : Array Value} {w1 : World} {v : Value} (h : ∀ W, Cls w1 W → Calls P f args W fun e w' => e = .returned v ∧ Below W.heap.size W w') :
    ∀ W, Cls w1 W → Calls P f args W fun e w'' => e = .returned v ∧ Cls w1 w'' := fun W hW => (h W hW).mono fun _ _ ⟨he, hb⟩ => ⟨he, hW.on hb⟩
/-- a call that leaves the world as it was -/
theorem cls_pure {P : Program} {f : FuncId} {args : Array Value} {w1 : World} {v : Value} (h : ∀ W, Calls P f args W fun e w' => e = .returned v ∧ W = w') :
    ∀ W, Cls w1 W → Calls P f args W fun e w'' => e = .returned v ∧ Cls w1 w'' := fun W hW => (h W).mono fun _ _ ⟨he, hb⟩ => ⟨he, hb ▸ hW⟩
theorem cls_load_mid {P : Program} {o : Oper} {a : Act} {w1 : World} {K : Act → Prop} (ty : TypeId) (x : Operand) (ho : o.op = .load ty x) (b off : Nat) (ha : a.eval x = .pointer (some ⟨b, off, none⟩))
    (cs : List Value) (d : TypeDesc) (hc : w1.rangeAt b off cs) (hb : b < w1.heap.size) (hu : P.underlying ty = some d) (hd : d.isRow = true) (hi : (P.info? ty).map (·.size) = some cs.length) (hk : K (a.put o.dst (.agg cs.toArray))) : o.quiet P a (Cls w1) K := by
  refine ⟨_, fun w hw => ?_, hk⟩
  have hr : w.rangeAt b off cs := fun j v hv => (Below.cell (p := ⟨b, off + j, none⟩) hw hb).trans (hc j v hv)
  unfold Oper.quietAt execOp
  simp only [ho]
  simp only [Sem.run_bind, ha]
  rw [run_loadAt_mid w b off ty cs d hr hu hd hi]
  exact ⟨rfl, rfl⟩
end Go.Proofs.Ytgoiidpcdifojaa.Sm
