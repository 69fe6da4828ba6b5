/-
  No cell of these rows narrows 'for every input' (looked for: loops, veiled, ifaces, maps, wideKeys, modest, calm, conditions, laid).
  DERIVED. THE GIVEN ROWS OF THIS SEAT. 10 by the template 'for every input the law returns true; each argument reads behind the call as it read before'; 0 by the template 'total and deterministic' (their statements: YtgoiidpcdifojaaTotals.lean).
  GIVEN WITH THE SEED: the statements are not yours to turn. If you find one false, say at which input.
  Laid BY PROGRAM, IN A SANDBOX (cutbox-rows.mjs): the forced cells as the released guide's own fill.sh prints them over the translation 44a5cc5deaf5c52e… (all of the seat's roots in one cut). By AI agents, Wed Nov 11 2026. No macro, syntax, notation, axiom, sorry.
-/
import Derived.Test.YtgoiidpcdifojaaChecked
import GoSem.Claim
import GoSem.ClaimJoined
import GoSem.ClaimMapViews
import Derived.JoinedTies
import Derived.KernelRfl
namespace Go.Proofs.Ytgoiidpcdifojaa
/- THE CELL 'sum', in the pinned program and in every row, IS THE sha256 OF THE DUMP (.gsa) THAT YtgoiidpcdifojaaProg.lean LOADS. Nothing in Lean hashes anything: it is a label: what it is worth is what the hold of that sum in a sandbox is worth. -/
noncomputable def Try.pinned : Pinned := { name := "ytgoiidpcdifojaa", sum := "44a5cc5deaf5c52e8e3a6c42fed19f3cd0708fa258dbfe91d2379254cddcd61e", checked := Try.checked }
namespace Rows
def none {H : Type} : Left H := { results := [], args := [] }

/-- 'clavigerlaw7.SlotsLast': WHATEVER THE INPUT: true; the input reads as it did. -/
def slotsLastSpec : ChangeSpec := { name := "slotsLast", fn := fun _ => fun
  | [d1, d2, d3] => { results := [.lit (.bool true)], args := [d1, d2, d3] }
  | _ => none }
def slotsLastRow : OpenClaim := { program := "ytgoiidpcdifojaa", sum := "44a5cc5deaf5c52e8e3a6c42fed19f3cd0708fa258dbfe91d2379254cddcd61e", func := "claviger/clavigerlaw7.SlotsLast", spec := "slotsLast", apart := false }
def SlotsLastSaid : Prop := slotsLastRow.holds Try.pinned (OpenSpec.ofChange slotsLastSpec)

/-- ITS FALSE NEIGHBOUR: 'it returns false'. Refute it at one input. -/
def slotsLastWrong : ChangeSpec := { name := "slotsLast", fn := fun _ => fun
  | [d1, d2, d3] => { results := [.lit (.bool false)], args := [d1, d2, d3] }
  | _ => none }
def SlotsLastWrongFalsely : Prop := slotsLastRow.holds Try.pinned (OpenSpec.ofChange slotsLastWrong)

/-- 'clavigerlaw7.SlotsApart': WHATEVER THE INPUT: true; the input reads as it did. -/
def slotsApartSpec : ChangeSpec := { name := "slotsApart", fn := fun _ => fun
  | [d1, d2] => { results := [.lit (.bool true)], args := [d1, d2] }
  | _ => none }
def slotsApartRow : OpenClaim := { program := "ytgoiidpcdifojaa", sum := "44a5cc5deaf5c52e8e3a6c42fed19f3cd0708fa258dbfe91d2379254cddcd61e", func := "claviger/clavigerlaw7.SlotsApart", spec := "slotsApart", apart := false }
def SlotsApartSaid : Prop := slotsApartRow.holds Try.pinned (OpenSpec.ofChange slotsApartSpec)

/-- ITS FALSE NEIGHBOUR: 'it returns false'. Refute it at one input. -/
def slotsApartWrong : ChangeSpec := { name := "slotsApart", fn := fun _ => fun
  | [d1, d2] => { results := [.lit (.bool false)], args := [d1, d2] }
  | _ => none }
def SlotsApartWrongFalsely : Prop := slotsApartRow.holds Try.pinned (OpenSpec.ofChange slotsApartWrong)

/-- 'clavigerlaw7.SlotsTurns': WHATEVER THE INPUT: true; the input reads as it did. -/
def slotsTurnsSpec : ChangeSpec := { name := "slotsTurns", fn := fun _ => fun
  | [d1, d2, d3] => { results := [.lit (.bool true)], args := [d1, d2, d3] }
  | _ => none }
def slotsTurnsRow : OpenClaim := { program := "ytgoiidpcdifojaa", sum := "44a5cc5deaf5c52e8e3a6c42fed19f3cd0708fa258dbfe91d2379254cddcd61e", func := "claviger/clavigerlaw7.SlotsTurns", spec := "slotsTurns", apart := false }
def SlotsTurnsSaid : Prop := slotsTurnsRow.holds Try.pinned (OpenSpec.ofChange slotsTurnsSpec)

/-- ITS FALSE NEIGHBOUR: 'it returns false'. Refute it at one input. -/
def slotsTurnsWrong : ChangeSpec := { name := "slotsTurns", fn := fun _ => fun
  | [d1, d2, d3] => { results := [.lit (.bool false)], args := [d1, d2, d3] }
  | _ => none }
def SlotsTurnsWrongFalsely : Prop := slotsTurnsRow.holds Try.pinned (OpenSpec.ofChange slotsTurnsWrong)

/-- 'clavigerlaw14.RosterNumbers': WHATEVER THE INPUT: true; the input reads as it did. -/
def rosterNumbersSpec : ChangeSpec := { name := "rosterNumbers", fn := fun _ => fun
  | [] => { results := [.lit (.bool true)], args := [] }
  | _ => none }
def rosterNumbersRow : OpenClaim := { program := "ytgoiidpcdifojaa", sum := "44a5cc5deaf5c52e8e3a6c42fed19f3cd0708fa258dbfe91d2379254cddcd61e", func := "claviger/clavigerlaw14.RosterNumbers", spec := "rosterNumbers", apart := false }
def RosterNumbersSaid : Prop := rosterNumbersRow.holds Try.pinned (OpenSpec.ofChange rosterNumbersSpec)

/-- ITS FALSE NEIGHBOUR: 'it returns false'. Refute it at one input. -/
def rosterNumbersWrong : ChangeSpec := { name := "rosterNumbers", fn := fun _ => fun
  | [] => { results := [.lit (.bool false)], args := [] }
  | _ => none }
def RosterNumbersWrongFalsely : Prop := rosterNumbersRow.holds Try.pinned (OpenSpec.ofChange rosterNumbersWrong)

/-- 'clavigerlaw14.RosterTells': WHATEVER THE INPUT: true; the input reads as it did. -/
def rosterTellsSpec : ChangeSpec := { name := "rosterTells", fn := fun _ => fun
  | [d1, d2, d3, d4, d5, d6] => { results := [.lit (.bool true)], args := [d1, d2, d3, d4, d5, d6] }
  | _ => none }
def rosterTellsRow : OpenClaim := { program := "ytgoiidpcdifojaa", sum := "44a5cc5deaf5c52e8e3a6c42fed19f3cd0708fa258dbfe91d2379254cddcd61e", func := "claviger/clavigerlaw14.RosterTells", spec := "rosterTells", apart := false }
def RosterTellsSaid : Prop := rosterTellsRow.holds Try.pinned (OpenSpec.ofChange rosterTellsSpec)

/-- ITS FALSE NEIGHBOUR: 'it returns false'. Refute it at one input. -/
def rosterTellsWrong : ChangeSpec := { name := "rosterTells", fn := fun _ => fun
  | [d1, d2, d3, d4, d5, d6] => { results := [.lit (.bool false)], args := [d1, d2, d3, d4, d5, d6] }
  | _ => none }
def RosterTellsWrongFalsely : Prop := rosterTellsRow.holds Try.pinned (OpenSpec.ofChange rosterTellsWrong)

/-- 'clavigerlaw14.RosterMajorities': WHATEVER THE INPUT: true; the input reads as it did. -/
def rosterMajoritiesSpec : ChangeSpec := { name := "rosterMajorities", fn := fun _ => fun
  | [d1, d2, d3, d4] => { results := [.lit (.bool true)], args := [d1, d2, d3, d4] }
  | _ => none }
def rosterMajoritiesRow : OpenClaim := { program := "ytgoiidpcdifojaa", sum := "44a5cc5deaf5c52e8e3a6c42fed19f3cd0708fa258dbfe91d2379254cddcd61e", func := "claviger/clavigerlaw14.RosterMajorities", spec := "rosterMajorities", apart := false }
def RosterMajoritiesSaid : Prop := rosterMajoritiesRow.holds Try.pinned (OpenSpec.ofChange rosterMajoritiesSpec)

/-- ITS FALSE NEIGHBOUR: 'it returns false'. Refute it at one input. -/
def rosterMajoritiesWrong : ChangeSpec := { name := "rosterMajorities", fn := fun _ => fun
  | [d1, d2, d3, d4] => { results := [.lit (.bool false)], args := [d1, d2, d3, d4] }
  | _ => none }
def RosterMajoritiesWrongFalsely : Prop := rosterMajoritiesRow.holds Try.pinned (OpenSpec.ofChange rosterMajoritiesWrong)

/-- 'clavigerlaw14.RosterBack': WHATEVER THE INPUT: true; the input reads as it did. -/
def rosterBackSpec : ChangeSpec := { name := "rosterBack", fn := fun _ => fun
  | [d1, d2, d3] => { results := [.lit (.bool true)], args := [d1, d2, d3] }
  | _ => none }
def rosterBackRow : OpenClaim := { program := "ytgoiidpcdifojaa", sum := "44a5cc5deaf5c52e8e3a6c42fed19f3cd0708fa258dbfe91d2379254cddcd61e", func := "claviger/clavigerlaw14.RosterBack", spec := "rosterBack", apart := false }
def RosterBackSaid : Prop := rosterBackRow.holds Try.pinned (OpenSpec.ofChange rosterBackSpec)

/-- ITS FALSE NEIGHBOUR: 'it returns false'. Refute it at one input. -/
def rosterBackWrong : ChangeSpec := { name := "rosterBack", fn := fun _ => fun
  | [d1, d2, d3] => { results := [.lit (.bool false)], args := [d1, d2, d3] }
  | _ => none }
def RosterBackWrongFalsely : Prop := rosterBackRow.holds Try.pinned (OpenSpec.ofChange rosterBackWrong)

/-- 'clavigerlaw15.EndorseNumbers': WHATEVER THE INPUT: true; the input reads as it did. -/
def endorseNumbersSpec : ChangeSpec := { name := "endorseNumbers", fn := fun _ => fun
  | [] => { results := [.lit (.bool true)], args := [] }
  | _ => none }
def endorseNumbersRow : OpenClaim := { program := "ytgoiidpcdifojaa", sum := "44a5cc5deaf5c52e8e3a6c42fed19f3cd0708fa258dbfe91d2379254cddcd61e", func := "claviger/clavigerlaw15.EndorseNumbers", spec := "endorseNumbers", apart := false }
def EndorseNumbersSaid : Prop := endorseNumbersRow.holds Try.pinned (OpenSpec.ofChange endorseNumbersSpec)

/-- ITS FALSE NEIGHBOUR: 'it returns false'. Refute it at one input. -/
def endorseNumbersWrong : ChangeSpec := { name := "endorseNumbers", fn := fun _ => fun
  | [] => { results := [.lit (.bool false)], args := [] }
  | _ => none }
def EndorseNumbersWrongFalsely : Prop := endorseNumbersRow.holds Try.pinned (OpenSpec.ofChange endorseNumbersWrong)

/-- 'clavigerlaw15.EndorseTells': WHATEVER THE INPUT: true; the input reads as it did. -/
def endorseTellsSpec : ChangeSpec := { name := "endorseTells", fn := fun _ => fun
  | [d1, d2, d3, d4, d5, d6, d7, d8] => { results := [.lit (.bool true)], args := [d1, d2, d3, d4, d5, d6, d7, d8] }
  | _ => none }
def endorseTellsRow : OpenClaim := { program := "ytgoiidpcdifojaa", sum := "44a5cc5deaf5c52e8e3a6c42fed19f3cd0708fa258dbfe91d2379254cddcd61e", func := "claviger/clavigerlaw15.EndorseTells", spec := "endorseTells", apart := false }
def EndorseTellsSaid : Prop := endorseTellsRow.holds Try.pinned (OpenSpec.ofChange endorseTellsSpec)

/-- ITS FALSE NEIGHBOUR: 'it returns false'. Refute it at one input. -/
def endorseTellsWrong : ChangeSpec := { name := "endorseTells", fn := fun _ => fun
  | [d1, d2, d3, d4, d5, d6, d7, d8] => { results := [.lit (.bool false)], args := [d1, d2, d3, d4, d5, d6, d7, d8] }
  | _ => none }
def EndorseTellsWrongFalsely : Prop := endorseTellsRow.holds Try.pinned (OpenSpec.ofChange endorseTellsWrong)

/-- 'clavigerlaw15.EndorseMajority': WHATEVER THE INPUT: true; the input reads as it did. -/
def endorseMajoritySpec : ChangeSpec := { name := "endorseMajority", fn := fun _ => fun
  | [d1, d2, d3, d4] => { results := [.lit (.bool true)], args := [d1, d2, d3, d4] }
  | _ => none }
def endorseMajorityRow : OpenClaim := { program := "ytgoiidpcdifojaa", sum := "44a5cc5deaf5c52e8e3a6c42fed19f3cd0708fa258dbfe91d2379254cddcd61e", func := "claviger/clavigerlaw15.EndorseMajority", spec := "endorseMajority", apart := false }
def EndorseMajoritySaid : Prop := endorseMajorityRow.holds Try.pinned (OpenSpec.ofChange endorseMajoritySpec)

/-- ITS FALSE NEIGHBOUR: 'it returns false'. Refute it at one input. -/
def endorseMajorityWrong : ChangeSpec := { name := "endorseMajority", fn := fun _ => fun
  | [d1, d2, d3, d4] => { results := [.lit (.bool false)], args := [d1, d2, d3, d4] }
  | _ => none }
def EndorseMajorityWrongFalsely : Prop := endorseMajorityRow.holds Try.pinned (OpenSpec.ofChange endorseMajorityWrong)

/- THE SECOND FORM. 'bulk': how many values and letters a reading holds, each counted each time it is reached (what is shared counts as often as it is met; a slice's spare places count too). A statement '..UptoSaid' is the law's where the arguments, and the package variables that the reading takes, are together of bulk at most 1048576: NARROWER than '..Said'. Prove '..Said' where nothing that the law and all that it calls make is longer than what came in: it says more and counts as full. Else prove '..UptoSaid'. A law counts once. -/
mutual
def uptoBulk {H : Type} : DataW H → Nat
  | .lit (.string bytes) => bytes.length + 1
  | .lit _ => 1
  | .nil => 1
  | .ptr d => uptoBulk d + 1
  | .slice elems spare => uptoBulkAll elems + uptoBulkAll spare + 1
  | .agg parts => uptoBulkAll parts + 1
  | .iface _ d => uptoBulk d + 1
  | .map entries => uptoBulkEntries entries + 1
  | .held _ => 1
def uptoBulkAll {H : Type} : List (DataW H) → Nat
  | [] => 0
  | d :: r => uptoBulk d + uptoBulkAll r
def uptoBulkEntries {H : Type} : List (Lit × DataW H) → Nat
  | [] => 0
  | x :: r => uptoBulkEntry x + uptoBulkEntries r
def uptoBulkEntry {H : Type} : Lit × DataW H → Nat
  | (.string bytes, d) => bytes.length + uptoBulk d + 1
  | (_, d) => uptoBulk d + 1
 end
def uptoSmall : (H : Type) → List (DataW H) → Bool := fun _ ds => decide (uptoBulkAll ds ≤ 1048576)
def OpenSpec.upto (s : _root_.Go.ChangeSpec) : _root_.Go.OpenSpec := { _root_.Go.OpenSpec.ofChange s with cond := some uptoSmall }

/-- 'clavigerlaw7.SlotsLast', WHERE WHAT IT READS IS OF BULK AT MOST 1048576: true; the input reads as it did. -/
def slotsLastUptoRow : OpenClaim := { program := "ytgoiidpcdifojaa", sum := "44a5cc5deaf5c52e8e3a6c42fed19f3cd0708fa258dbfe91d2379254cddcd61e", func := "claviger/clavigerlaw7.SlotsLast", spec := "slotsLast", apart := false, narrowed := true }
def SlotsLastUptoSaid : Prop := slotsLastUptoRow.holds Try.pinned (OpenSpec.upto slotsLastSpec)

/-- 'clavigerlaw7.SlotsApart', WHERE WHAT IT READS IS OF BULK AT MOST 1048576: true; the input reads as it did. -/
def slotsApartUptoRow : OpenClaim := { program := "ytgoiidpcdifojaa", sum := "44a5cc5deaf5c52e8e3a6c42fed19f3cd0708fa258dbfe91d2379254cddcd61e", func := "claviger/clavigerlaw7.SlotsApart", spec := "slotsApart", apart := false, narrowed := true }
def SlotsApartUptoSaid : Prop := slotsApartUptoRow.holds Try.pinned (OpenSpec.upto slotsApartSpec)

/-- 'clavigerlaw7.SlotsTurns', WHERE WHAT IT READS IS OF BULK AT MOST 1048576: true; the input reads as it did. -/
def slotsTurnsUptoRow : OpenClaim := { program := "ytgoiidpcdifojaa", sum := "44a5cc5deaf5c52e8e3a6c42fed19f3cd0708fa258dbfe91d2379254cddcd61e", func := "claviger/clavigerlaw7.SlotsTurns", spec := "slotsTurns", apart := false, narrowed := true }
def SlotsTurnsUptoSaid : Prop := slotsTurnsUptoRow.holds Try.pinned (OpenSpec.upto slotsTurnsSpec)

/-- 'clavigerlaw14.RosterNumbers', WHERE WHAT IT READS IS OF BULK AT MOST 1048576: true; the input reads as it did. -/
def rosterNumbersUptoRow : OpenClaim := { program := "ytgoiidpcdifojaa", sum := "44a5cc5deaf5c52e8e3a6c42fed19f3cd0708fa258dbfe91d2379254cddcd61e", func := "claviger/clavigerlaw14.RosterNumbers", spec := "rosterNumbers", apart := false, narrowed := true }
def RosterNumbersUptoSaid : Prop := rosterNumbersUptoRow.holds Try.pinned (OpenSpec.upto rosterNumbersSpec)

/-- 'clavigerlaw14.RosterTells', WHERE WHAT IT READS IS OF BULK AT MOST 1048576: true; the input reads as it did. -/
def rosterTellsUptoRow : OpenClaim := { program := "ytgoiidpcdifojaa", sum := "44a5cc5deaf5c52e8e3a6c42fed19f3cd0708fa258dbfe91d2379254cddcd61e", func := "claviger/clavigerlaw14.RosterTells", spec := "rosterTells", apart := false, narrowed := true }
def RosterTellsUptoSaid : Prop := rosterTellsUptoRow.holds Try.pinned (OpenSpec.upto rosterTellsSpec)

/-- 'clavigerlaw14.RosterMajorities', WHERE WHAT IT READS IS OF BULK AT MOST 1048576: true; the input reads as it did. -/
def rosterMajoritiesUptoRow : OpenClaim := { program := "ytgoiidpcdifojaa", sum := "44a5cc5deaf5c52e8e3a6c42fed19f3cd0708fa258dbfe91d2379254cddcd61e", func := "claviger/clavigerlaw14.RosterMajorities", spec := "rosterMajorities", apart := false, narrowed := true }
def RosterMajoritiesUptoSaid : Prop := rosterMajoritiesUptoRow.holds Try.pinned (OpenSpec.upto rosterMajoritiesSpec)

/-- 'clavigerlaw14.RosterBack', WHERE WHAT IT READS IS OF BULK AT MOST 1048576: true; the input reads as it did. -/
def rosterBackUptoRow : OpenClaim := { program := "ytgoiidpcdifojaa", sum := "44a5cc5deaf5c52e8e3a6c42fed19f3cd0708fa258dbfe91d2379254cddcd61e", func := "claviger/clavigerlaw14.RosterBack", spec := "rosterBack", apart := false, narrowed := true }
def RosterBackUptoSaid : Prop := rosterBackUptoRow.holds Try.pinned (OpenSpec.upto rosterBackSpec)

/-- 'clavigerlaw15.EndorseNumbers', WHERE WHAT IT READS IS OF BULK AT MOST 1048576: true; the input reads as it did. -/
def endorseNumbersUptoRow : OpenClaim := { program := "ytgoiidpcdifojaa", sum := "44a5cc5deaf5c52e8e3a6c42fed19f3cd0708fa258dbfe91d2379254cddcd61e", func := "claviger/clavigerlaw15.EndorseNumbers", spec := "endorseNumbers", apart := false, narrowed := true }
def EndorseNumbersUptoSaid : Prop := endorseNumbersUptoRow.holds Try.pinned (OpenSpec.upto endorseNumbersSpec)

/-- 'clavigerlaw15.EndorseTells', WHERE WHAT IT READS IS OF BULK AT MOST 1048576: true; the input reads as it did. -/
def endorseTellsUptoRow : OpenClaim := { program := "ytgoiidpcdifojaa", sum := "44a5cc5deaf5c52e8e3a6c42fed19f3cd0708fa258dbfe91d2379254cddcd61e", func := "claviger/clavigerlaw15.EndorseTells", spec := "endorseTells", apart := false, narrowed := true }
def EndorseTellsUptoSaid : Prop := endorseTellsUptoRow.holds Try.pinned (OpenSpec.upto endorseTellsSpec)

/-- 'clavigerlaw15.EndorseMajority', WHERE WHAT IT READS IS OF BULK AT MOST 1048576: true; the input reads as it did. -/
def endorseMajorityUptoRow : OpenClaim := { program := "ytgoiidpcdifojaa", sum := "44a5cc5deaf5c52e8e3a6c42fed19f3cd0708fa258dbfe91d2379254cddcd61e", func := "claviger/clavigerlaw15.EndorseMajority", spec := "endorseMajority", apart := false, narrowed := true }
def EndorseMajorityUptoSaid : Prop := endorseMajorityUptoRow.holds Try.pinned (OpenSpec.upto endorseMajoritySpec)

end Rows
end Go.Proofs.Ytgoiidpcdifojaa
