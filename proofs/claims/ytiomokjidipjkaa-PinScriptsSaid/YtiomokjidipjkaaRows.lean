/-
  No cell of these rows narrows 'for every input' (looked for: loops, veiled, ifaces, maps, wideKeys, modest, calm, conditions, laid).
  DERIVED. THE GIVEN ROWS OF THIS SEAT. 5 by the template 'for every input the law returns true; each argument reads behind the call as it read before'; 0 by the template 'total and deterministic' (their statements: YtiomokjidipjkaaTotals.lean).
  GIVEN WITH THE SEED: the statements are not yours to turn. If you find one false, say at which input.
  Laid BY PROGRAM, IN A SANDBOX (cutbox-rows.mjs): the forced cells as the released guide's own fill.sh prints them over the translation 59d87fc8a82620a5… (all of the seat's roots in one cut). By AI agents, Wed Nov 11 2026. No macro, syntax, notation, axiom, sorry.
-/
import Derived.Test.YtiomokjidipjkaaChecked
import GoSem.Claim
import GoSem.ClaimJoined
import GoSem.ClaimMapViews
import Derived.JoinedTies
import Derived.KernelRfl
namespace Go.Proofs.Ytiomokjidipjkaa
/- THE CELL 'sum', in the pinned program and in every row, IS THE sha256 OF THE DUMP (.gsa) THAT YtiomokjidipjkaaProg.lean LOADS. Nothing in Lean hashes anything: it is a label: what it is worth is what the hold of that sum in a sandbox is worth. -/
noncomputable def Try.pinned : Pinned := { name := "ytiomokjidipjkaa", sum := "59d87fc8a82620a573a0a503f222f45946103aa5e9e7c14670286193ae5035ef", checked := Try.checked }
namespace Rows
def none {H : Type} : Left H := { results := [], args := [] }

/-- 'clavigerlaw1.PinNumbers': WHATEVER THE INPUT: true; the input reads as it did. -/
def pinNumbersSpec : ChangeSpec := { name := "pinNumbers", fn := fun _ => fun
  | [] => { results := [.lit (.bool true)], args := [] }
  | _ => none }
def pinNumbersRow : OpenClaim := { program := "ytiomokjidipjkaa", sum := "59d87fc8a82620a573a0a503f222f45946103aa5e9e7c14670286193ae5035ef", func := "claviger/clavigerlaw1.PinNumbers", spec := "pinNumbers", inPlace := ["internal/abi.NoEscape"], apart := false }
def PinNumbersSaid : Prop := pinNumbersRow.holds Try.pinned (OpenSpec.ofChange pinNumbersSpec)

/-- ITS FALSE NEIGHBOUR: 'it returns false'. Refute it at one input. -/
def pinNumbersWrong : ChangeSpec := { name := "pinNumbers", fn := fun _ => fun
  | [] => { results := [.lit (.bool false)], args := [] }
  | _ => none }
def PinNumbersWrongFalsely : Prop := pinNumbersRow.holds Try.pinned (OpenSpec.ofChange pinNumbersWrong)

/-- 'clavigerlaw1.PinTells': WHATEVER THE INPUT: true; the input reads as it did. -/
def pinTellsSpec : ChangeSpec := { name := "pinTells", fn := fun _ => fun
  | [d1, d2] => { results := [.lit (.bool true)], args := [d1, d2] }
  | _ => none }
def pinTellsRow : OpenClaim := { program := "ytiomokjidipjkaa", sum := "59d87fc8a82620a573a0a503f222f45946103aa5e9e7c14670286193ae5035ef", func := "claviger/clavigerlaw1.PinTells", spec := "pinTells", inPlace := ["internal/abi.NoEscape"], apart := false }
def PinTellsSaid : Prop := pinTellsRow.holds Try.pinned (OpenSpec.ofChange pinTellsSpec)

/-- ITS FALSE NEIGHBOUR: 'it returns false'. Refute it at one input. -/
def pinTellsWrong : ChangeSpec := { name := "pinTells", fn := fun _ => fun
  | [d1, d2] => { results := [.lit (.bool false)], args := [d1, d2] }
  | _ => none }
def PinTellsWrongFalsely : Prop := pinTellsRow.holds Try.pinned (OpenSpec.ofChange pinTellsWrong)

/-- 'clavigerlaw1.PinScripts': WHATEVER THE INPUT: true; the input reads as it did. -/
def pinScriptsSpec : ChangeSpec := { name := "pinScripts", fn := fun _ => fun
  | [d1, d2] => { results := [.lit (.bool true)], args := [d1, d2] }
  | _ => none }
def pinScriptsRow : OpenClaim := { program := "ytiomokjidipjkaa", sum := "59d87fc8a82620a573a0a503f222f45946103aa5e9e7c14670286193ae5035ef", func := "claviger/clavigerlaw1.PinScripts", spec := "pinScripts", inPlace := ["internal/abi.NoEscape"], apart := false }
def PinScriptsSaid : Prop := pinScriptsRow.holds Try.pinned (OpenSpec.ofChange pinScriptsSpec)

/-- ITS FALSE NEIGHBOUR: 'it returns false'. Refute it at one input. -/
def pinScriptsWrong : ChangeSpec := { name := "pinScripts", fn := fun _ => fun
  | [d1, d2] => { results := [.lit (.bool false)], args := [d1, d2] }
  | _ => none }
def PinScriptsWrongFalsely : Prop := pinScriptsRow.holds Try.pinned (OpenSpec.ofChange pinScriptsWrong)

/-- 'clavigerlaw1.PinMasks': WHATEVER THE INPUT: true; the input reads as it did. -/
def pinMasksSpec : ChangeSpec := { name := "pinMasks", fn := fun _ => fun
  | [d] => { results := [.lit (.bool true)], args := [d] }
  | _ => none }
def pinMasksRow : OpenClaim := { program := "ytiomokjidipjkaa", sum := "59d87fc8a82620a573a0a503f222f45946103aa5e9e7c14670286193ae5035ef", func := "claviger/clavigerlaw1.PinMasks", spec := "pinMasks", inPlace := ["internal/abi.NoEscape"], apart := false }
def PinMasksSaid : Prop := pinMasksRow.holds Try.pinned (OpenSpec.ofChange pinMasksSpec)

/-- ITS FALSE NEIGHBOUR: 'it returns false'. Refute it at one input. -/
def pinMasksWrong : ChangeSpec := { name := "pinMasks", fn := fun _ => fun
  | [d] => { results := [.lit (.bool false)], args := [d] }
  | _ => none }
def PinMasksWrongFalsely : Prop := pinMasksRow.holds Try.pinned (OpenSpec.ofChange pinMasksWrong)

/-- 'clavigerlaw1.PinWeak': WHATEVER THE INPUT: true; the input reads as it did. -/
def pinWeakSpec : ChangeSpec := { name := "pinWeak", fn := fun _ => fun
  | [d1, d2, d3, d4, d5] => { results := [.lit (.bool true)], args := [d1, d2, d3, d4, d5] }
  | _ => none }
def pinWeakRow : OpenClaim := { program := "ytiomokjidipjkaa", sum := "59d87fc8a82620a573a0a503f222f45946103aa5e9e7c14670286193ae5035ef", func := "claviger/clavigerlaw1.PinWeak", spec := "pinWeak", inPlace := ["internal/abi.NoEscape"], apart := false }
def PinWeakSaid : Prop := pinWeakRow.holds Try.pinned (OpenSpec.ofChange pinWeakSpec)

/-- ITS FALSE NEIGHBOUR: 'it returns false'. Refute it at one input. -/
def pinWeakWrong : ChangeSpec := { name := "pinWeak", fn := fun _ => fun
  | [d1, d2, d3, d4, d5] => { results := [.lit (.bool false)], args := [d1, d2, d3, d4, d5] }
  | _ => none }
def PinWeakWrongFalsely : Prop := pinWeakRow.holds Try.pinned (OpenSpec.ofChange pinWeakWrong)

/- THE SECOND FORM. 'bulk': how many values and letters a reading holds, each counted each time it is reached (what is shared counts as often as it is met; a slice's spare places count too). A statement '..UptoSaid' is the law's where the arguments, and the package variables that the reading takes, are together of bulk at most 1048576: NARROWER than '..Said'. Prove '..Said' where nothing that the law and all that it calls make is longer than what came in: it says more and counts as full. Else prove '..UptoSaid'. A law counts once. -/
mutual
def uptoBulk {H : Type} : DataW H → Nat
  | .lit (.string bytes) => bytes.length + 1
  | .lit _ => 1
  | .nil => 1
  | .ptr d => uptoBulk d + 1
  | .slice elems spare => uptoBulkAll elems + uptoBulkAll spare + 1
  | .agg parts => uptoBulkAll parts + 1
  | .iface _ d => uptoBulk d + 1
  | .map entries => uptoBulkEntries entries + 1
  | .held _ => 1
def uptoBulkAll {H : Type} : List (DataW H) → Nat
  | [] => 0
  | d :: r => uptoBulk d + uptoBulkAll r
def uptoBulkEntries {H : Type} : List (Lit × DataW H) → Nat
  | [] => 0
  | x :: r => uptoBulkEntry x + uptoBulkEntries r
def uptoBulkEntry {H : Type} : Lit × DataW H → Nat
  | (.string bytes, d) => bytes.length + uptoBulk d + 1
  | (_, d) => uptoBulk d + 1
 end
def uptoSmall : (H : Type) → List (DataW H) → Bool := fun _ ds => decide (uptoBulkAll ds ≤ 1048576)
def OpenSpec.upto (s : _root_.Go.ChangeSpec) : _root_.Go.OpenSpec := { _root_.Go.OpenSpec.ofChange s with cond := some uptoSmall }

/-- 'clavigerlaw1.PinNumbers', WHERE WHAT IT READS IS OF BULK AT MOST 1048576: true; the input reads as it did. -/
def pinNumbersUptoRow : OpenClaim := { program := "ytiomokjidipjkaa", sum := "59d87fc8a82620a573a0a503f222f45946103aa5e9e7c14670286193ae5035ef", func := "claviger/clavigerlaw1.PinNumbers", spec := "pinNumbers", inPlace := ["internal/abi.NoEscape"], apart := false, narrowed := true }
def PinNumbersUptoSaid : Prop := pinNumbersUptoRow.holds Try.pinned (OpenSpec.upto pinNumbersSpec)

/-- 'clavigerlaw1.PinTells', WHERE WHAT IT READS IS OF BULK AT MOST 1048576: true; the input reads as it did. -/
def pinTellsUptoRow : OpenClaim := { program := "ytiomokjidipjkaa", sum := "59d87fc8a82620a573a0a503f222f45946103aa5e9e7c14670286193ae5035ef", func := "claviger/clavigerlaw1.PinTells", spec := "pinTells", inPlace := ["internal/abi.NoEscape"], apart := false, narrowed := true }
def PinTellsUptoSaid : Prop := pinTellsUptoRow.holds Try.pinned (OpenSpec.upto pinTellsSpec)

/-- 'clavigerlaw1.PinScripts', WHERE WHAT IT READS IS OF BULK AT MOST 1048576: true; the input reads as it did. -/
def pinScriptsUptoRow : OpenClaim := { program := "ytiomokjidipjkaa", sum := "59d87fc8a82620a573a0a503f222f45946103aa5e9e7c14670286193ae5035ef", func := "claviger/clavigerlaw1.PinScripts", spec := "pinScripts", inPlace := ["internal/abi.NoEscape"], apart := false, narrowed := true }
def PinScriptsUptoSaid : Prop := pinScriptsUptoRow.holds Try.pinned (OpenSpec.upto pinScriptsSpec)

/-- 'clavigerlaw1.PinMasks', WHERE WHAT IT READS IS OF BULK AT MOST 1048576: true; the input reads as it did. -/
def pinMasksUptoRow : OpenClaim := { program := "ytiomokjidipjkaa", sum := "59d87fc8a82620a573a0a503f222f45946103aa5e9e7c14670286193ae5035ef", func := "claviger/clavigerlaw1.PinMasks", spec := "pinMasks", inPlace := ["internal/abi.NoEscape"], apart := false, narrowed := true }
def PinMasksUptoSaid : Prop := pinMasksUptoRow.holds Try.pinned (OpenSpec.upto pinMasksSpec)

/-- 'clavigerlaw1.PinWeak', WHERE WHAT IT READS IS OF BULK AT MOST 1048576: true; the input reads as it did. -/
def pinWeakUptoRow : OpenClaim := { program := "ytiomokjidipjkaa", sum := "59d87fc8a82620a573a0a503f222f45946103aa5e9e7c14670286193ae5035ef", func := "claviger/clavigerlaw1.PinWeak", spec := "pinWeak", inPlace := ["internal/abi.NoEscape"], apart := false, narrowed := true }
def PinWeakUptoSaid : Prop := pinWeakUptoRow.holds Try.pinned (OpenSpec.upto pinWeakSpec)

end Rows
end Go.Proofs.Ytiomokjidipjkaa
