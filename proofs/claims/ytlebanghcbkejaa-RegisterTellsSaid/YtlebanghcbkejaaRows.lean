/-
  No cell of these rows narrows 'for every input' (looked for: loops, veiled, ifaces, maps, wideKeys, modest, calm, conditions, laid).
  DERIVED. THE GIVEN ROWS OF THIS SEAT. 8 by the template 'for every input the law returns true; each argument reads behind the call as it read before'; 0 by the template 'total and deterministic' (their statements: YtlebanghcbkejaaTotals.lean).
  GIVEN WITH THE SEED: the statements are not yours to turn. If you find one false, say at which input.
  Laid BY PROGRAM, IN A SANDBOX (cutbox-rows.mjs): the forced cells as the released guide's own fill.sh prints them over the translation ade91b6466b2caf9… (all of the seat's roots in one cut). By AI agents, Wed Nov 11 2026. No macro, syntax, notation, axiom, sorry.
-/
import Derived.Test.YtlebanghcbkejaaChecked
import GoSem.Claim
import GoSem.ClaimJoined
import GoSem.ClaimMapViews
import Derived.JoinedTies
import Derived.KernelRfl
namespace Go.Proofs.Ytlebanghcbkejaa
/- THE CELL 'sum', in the pinned program and in every row, IS THE sha256 OF THE DUMP (.gsa) THAT YtlebanghcbkejaaProg.lean LOADS. Nothing in Lean hashes anything: it is a label: what it is worth is what the hold of that sum in a sandbox is worth. -/
noncomputable def Try.pinned : Pinned := { name := "ytlebanghcbkejaa", sum := "ade91b6466b2caf98ebe462d0388efa3a70abb68f2b37e1fb19e164064c3062d", checked := Try.checked }
namespace Rows
def none {H : Type} : Left H := { results := [], args := [] }

/-- 'clavigerlaw8.RegisterNumbers': WHATEVER THE INPUT: true; the input reads as it did. -/
def registerNumbersSpec : ChangeSpec := { name := "registerNumbers", fn := fun _ => fun
  | [] => { results := [.lit (.bool true)], args := [] }
  | _ => none }
def registerNumbersRow : OpenClaim := { program := "ytlebanghcbkejaa", sum := "ade91b6466b2caf98ebe462d0388efa3a70abb68f2b37e1fb19e164064c3062d", func := "claviger/clavigerlaw8.RegisterNumbers", spec := "registerNumbers", apart := false }
def RegisterNumbersSaid : Prop := registerNumbersRow.holds Try.pinned (OpenSpec.ofChange registerNumbersSpec)

/-- ITS FALSE NEIGHBOUR: 'it returns false'. Refute it at one input. -/
def registerNumbersWrong : ChangeSpec := { name := "registerNumbers", fn := fun _ => fun
  | [] => { results := [.lit (.bool false)], args := [] }
  | _ => none }
def RegisterNumbersWrongFalsely : Prop := registerNumbersRow.holds Try.pinned (OpenSpec.ofChange registerNumbersWrong)

/-- 'clavigerlaw8.RegisterTells': WHATEVER THE INPUT: true; the input reads as it did. -/
def registerTellsSpec : ChangeSpec := { name := "registerTells", fn := fun _ => fun
  | [d1, d2, d3, d4] => { results := [.lit (.bool true)], args := [d1, d2, d3, d4] }
  | _ => none }
def registerTellsRow : OpenClaim := { program := "ytlebanghcbkejaa", sum := "ade91b6466b2caf98ebe462d0388efa3a70abb68f2b37e1fb19e164064c3062d", func := "claviger/clavigerlaw8.RegisterTells", spec := "registerTells", apart := false }
def RegisterTellsSaid : Prop := registerTellsRow.holds Try.pinned (OpenSpec.ofChange registerTellsSpec)

/-- ITS FALSE NEIGHBOUR: 'it returns false'. Refute it at one input. -/
def registerTellsWrong : ChangeSpec := { name := "registerTells", fn := fun _ => fun
  | [d1, d2, d3, d4] => { results := [.lit (.bool false)], args := [d1, d2, d3, d4] }
  | _ => none }
def RegisterTellsWrongFalsely : Prop := registerTellsRow.holds Try.pinned (OpenSpec.ofChange registerTellsWrong)

/-- 'clavigerlaw8.RegisterOnward': WHATEVER THE INPUT: true; the input reads as it did. -/
def registerOnwardSpec : ChangeSpec := { name := "registerOnward", fn := fun _ => fun
  | [d1, d2] => { results := [.lit (.bool true)], args := [d1, d2] }
  | _ => none }
def registerOnwardRow : OpenClaim := { program := "ytlebanghcbkejaa", sum := "ade91b6466b2caf98ebe462d0388efa3a70abb68f2b37e1fb19e164064c3062d", func := "claviger/clavigerlaw8.RegisterOnward", spec := "registerOnward", apart := false }
def RegisterOnwardSaid : Prop := registerOnwardRow.holds Try.pinned (OpenSpec.ofChange registerOnwardSpec)

/-- ITS FALSE NEIGHBOUR: 'it returns false'. Refute it at one input. -/
def registerOnwardWrong : ChangeSpec := { name := "registerOnward", fn := fun _ => fun
  | [d1, d2] => { results := [.lit (.bool false)], args := [d1, d2] }
  | _ => none }
def RegisterOnwardWrongFalsely : Prop := registerOnwardRow.holds Try.pinned (OpenSpec.ofChange registerOnwardWrong)

/-- 'clavigerlaw8.RegisterFolds': WHATEVER THE INPUT: true; the input reads as it did. -/
def registerFoldsSpec : ChangeSpec := { name := "registerFolds", fn := fun _ => fun
  | [d1, d2] => { results := [.lit (.bool true)], args := [d1, d2] }
  | _ => none }
def registerFoldsRow : OpenClaim := { program := "ytlebanghcbkejaa", sum := "ade91b6466b2caf98ebe462d0388efa3a70abb68f2b37e1fb19e164064c3062d", func := "claviger/clavigerlaw8.RegisterFolds", spec := "registerFolds", apart := false }
def RegisterFoldsSaid : Prop := registerFoldsRow.holds Try.pinned (OpenSpec.ofChange registerFoldsSpec)

/-- ITS FALSE NEIGHBOUR: 'it returns false'. Refute it at one input. -/
def registerFoldsWrong : ChangeSpec := { name := "registerFolds", fn := fun _ => fun
  | [d1, d2] => { results := [.lit (.bool false)], args := [d1, d2] }
  | _ => none }
def RegisterFoldsWrongFalsely : Prop := registerFoldsRow.holds Try.pinned (OpenSpec.ofChange registerFoldsWrong)

/-- 'clavigerlaw13.ShardNumbers': WHATEVER THE INPUT: true; the input reads as it did. -/
def shardNumbersSpec : ChangeSpec := { name := "shardNumbers", fn := fun _ => fun
  | [] => { results := [.lit (.bool true)], args := [] }
  | _ => none }
def shardNumbersRow : OpenClaim := { program := "ytlebanghcbkejaa", sum := "ade91b6466b2caf98ebe462d0388efa3a70abb68f2b37e1fb19e164064c3062d", func := "claviger/clavigerlaw13.ShardNumbers", spec := "shardNumbers", apart := false }
def ShardNumbersSaid : Prop := shardNumbersRow.holds Try.pinned (OpenSpec.ofChange shardNumbersSpec)

/-- ITS FALSE NEIGHBOUR: 'it returns false'. Refute it at one input. -/
def shardNumbersWrong : ChangeSpec := { name := "shardNumbers", fn := fun _ => fun
  | [] => { results := [.lit (.bool false)], args := [] }
  | _ => none }
def ShardNumbersWrongFalsely : Prop := shardNumbersRow.holds Try.pinned (OpenSpec.ofChange shardNumbersWrong)

/-- 'clavigerlaw13.ShardTells': WHATEVER THE INPUT: true; the input reads as it did. -/
def shardTellsSpec : ChangeSpec := { name := "shardTells", fn := fun _ => fun
  | [d1, d2, d3] => { results := [.lit (.bool true)], args := [d1, d2, d3] }
  | _ => none }
def shardTellsRow : OpenClaim := { program := "ytlebanghcbkejaa", sum := "ade91b6466b2caf98ebe462d0388efa3a70abb68f2b37e1fb19e164064c3062d", func := "claviger/clavigerlaw13.ShardTells", spec := "shardTells", apart := false }
def ShardTellsSaid : Prop := shardTellsRow.holds Try.pinned (OpenSpec.ofChange shardTellsSpec)

/-- ITS FALSE NEIGHBOUR: 'it returns false'. Refute it at one input. -/
def shardTellsWrong : ChangeSpec := { name := "shardTells", fn := fun _ => fun
  | [d1, d2, d3] => { results := [.lit (.bool false)], args := [d1, d2, d3] }
  | _ => none }
def ShardTellsWrongFalsely : Prop := shardTellsRow.holds Try.pinned (OpenSpec.ofChange shardTellsWrong)

/-- 'clavigerlaw13.ShardHomes': WHATEVER THE INPUT: true; the input reads as it did. -/
def shardHomesSpec : ChangeSpec := { name := "shardHomes", fn := fun _ => fun
  | [d] => { results := [.lit (.bool true)], args := [d] }
  | _ => none }
def shardHomesRow : OpenClaim := { program := "ytlebanghcbkejaa", sum := "ade91b6466b2caf98ebe462d0388efa3a70abb68f2b37e1fb19e164064c3062d", func := "claviger/clavigerlaw13.ShardHomes", spec := "shardHomes", apart := false }
def ShardHomesSaid : Prop := shardHomesRow.holds Try.pinned (OpenSpec.ofChange shardHomesSpec)

/-- ITS FALSE NEIGHBOUR: 'it returns false'. Refute it at one input. -/
def shardHomesWrong : ChangeSpec := { name := "shardHomes", fn := fun _ => fun
  | [d] => { results := [.lit (.bool false)], args := [d] }
  | _ => none }
def ShardHomesWrongFalsely : Prop := shardHomesRow.holds Try.pinned (OpenSpec.ofChange shardHomesWrong)

/-- 'clavigerlaw13.ShardMembers': WHATEVER THE INPUT: true; the input reads as it did. -/
def shardMembersSpec : ChangeSpec := { name := "shardMembers", fn := fun _ => fun
  | [d1, d2] => { results := [.lit (.bool true)], args := [d1, d2] }
  | _ => none }
def shardMembersRow : OpenClaim := { program := "ytlebanghcbkejaa", sum := "ade91b6466b2caf98ebe462d0388efa3a70abb68f2b37e1fb19e164064c3062d", func := "claviger/clavigerlaw13.ShardMembers", spec := "shardMembers", apart := false }
def ShardMembersSaid : Prop := shardMembersRow.holds Try.pinned (OpenSpec.ofChange shardMembersSpec)

/-- ITS FALSE NEIGHBOUR: 'it returns false'. Refute it at one input. -/
def shardMembersWrong : ChangeSpec := { name := "shardMembers", fn := fun _ => fun
  | [d1, d2] => { results := [.lit (.bool false)], args := [d1, d2] }
  | _ => none }
def ShardMembersWrongFalsely : Prop := shardMembersRow.holds Try.pinned (OpenSpec.ofChange shardMembersWrong)

/- THE SECOND FORM. 'bulk': how many values and letters a reading holds, each counted each time it is reached (what is shared counts as often as it is met; a slice's spare places count too). A statement '..UptoSaid' is the law's where the arguments, and the package variables that the reading takes, are together of bulk at most 1048576: NARROWER than '..Said'. Prove '..Said' where nothing that the law and all that it calls make is longer than what came in: it says more and counts as full. Else prove '..UptoSaid'. A law counts once. -/
mutual
def uptoBulk {H : Type} : DataW H → Nat
  | .lit (.string bytes) => bytes.length + 1
  | .lit _ => 1
  | .nil => 1
  | .ptr d => uptoBulk d + 1
  | .slice elems spare => uptoBulkAll elems + uptoBulkAll spare + 1
  | .agg parts => uptoBulkAll parts + 1
  | .iface _ d => uptoBulk d + 1
  | .map entries => uptoBulkEntries entries + 1
  | .held _ => 1
def uptoBulkAll {H : Type} : List (DataW H) → Nat
  | [] => 0
  | d :: r => uptoBulk d + uptoBulkAll r
def uptoBulkEntries {H : Type} : List (Lit × DataW H) → Nat
  | [] => 0
  | x :: r => uptoBulkEntry x + uptoBulkEntries r
def uptoBulkEntry {H : Type} : Lit × DataW H → Nat
  | (.string bytes, d) => bytes.length + uptoBulk d + 1
  | (_, d) => uptoBulk d + 1
 end
def uptoSmall : (H : Type) → List (DataW H) → Bool := fun _ ds => decide (uptoBulkAll ds ≤ 1048576)
def OpenSpec.upto (s : _root_.Go.ChangeSpec) : _root_.Go.OpenSpec := { _root_.Go.OpenSpec.ofChange s with cond := some uptoSmall }

/-- 'clavigerlaw8.RegisterNumbers', WHERE WHAT IT READS IS OF BULK AT MOST 1048576: true; the input reads as it did. -/
def registerNumbersUptoRow : OpenClaim := { program := "ytlebanghcbkejaa", sum := "ade91b6466b2caf98ebe462d0388efa3a70abb68f2b37e1fb19e164064c3062d", func := "claviger/clavigerlaw8.RegisterNumbers", spec := "registerNumbers", apart := false, narrowed := true }
def RegisterNumbersUptoSaid : Prop := registerNumbersUptoRow.holds Try.pinned (OpenSpec.upto registerNumbersSpec)

/-- 'clavigerlaw8.RegisterTells', WHERE WHAT IT READS IS OF BULK AT MOST 1048576: true; the input reads as it did. -/
def registerTellsUptoRow : OpenClaim := { program := "ytlebanghcbkejaa", sum := "ade91b6466b2caf98ebe462d0388efa3a70abb68f2b37e1fb19e164064c3062d", func := "claviger/clavigerlaw8.RegisterTells", spec := "registerTells", apart := false, narrowed := true }
def RegisterTellsUptoSaid : Prop := registerTellsUptoRow.holds Try.pinned (OpenSpec.upto registerTellsSpec)

/-- 'clavigerlaw8.RegisterOnward', WHERE WHAT IT READS IS OF BULK AT MOST 1048576: true; the input reads as it did. -/
def registerOnwardUptoRow : OpenClaim := { program := "ytlebanghcbkejaa", sum := "ade91b6466b2caf98ebe462d0388efa3a70abb68f2b37e1fb19e164064c3062d", func := "claviger/clavigerlaw8.RegisterOnward", spec := "registerOnward", apart := false, narrowed := true }
def RegisterOnwardUptoSaid : Prop := registerOnwardUptoRow.holds Try.pinned (OpenSpec.upto registerOnwardSpec)

/-- 'clavigerlaw8.RegisterFolds', WHERE WHAT IT READS IS OF BULK AT MOST 1048576: true; the input reads as it did. -/
def registerFoldsUptoRow : OpenClaim := { program := "ytlebanghcbkejaa", sum := "ade91b6466b2caf98ebe462d0388efa3a70abb68f2b37e1fb19e164064c3062d", func := "claviger/clavigerlaw8.RegisterFolds", spec := "registerFolds", apart := false, narrowed := true }
def RegisterFoldsUptoSaid : Prop := registerFoldsUptoRow.holds Try.pinned (OpenSpec.upto registerFoldsSpec)

/-- 'clavigerlaw13.ShardNumbers', WHERE WHAT IT READS IS OF BULK AT MOST 1048576: true; the input reads as it did. -/
def shardNumbersUptoRow : OpenClaim := { program := "ytlebanghcbkejaa", sum := "ade91b6466b2caf98ebe462d0388efa3a70abb68f2b37e1fb19e164064c3062d", func := "claviger/clavigerlaw13.ShardNumbers", spec := "shardNumbers", apart := false, narrowed := true }
def ShardNumbersUptoSaid : Prop := shardNumbersUptoRow.holds Try.pinned (OpenSpec.upto shardNumbersSpec)

/-- 'clavigerlaw13.ShardTells', WHERE WHAT IT READS IS OF BULK AT MOST 1048576: true; the input reads as it did. -/
def shardTellsUptoRow : OpenClaim := { program := "ytlebanghcbkejaa", sum := "ade91b6466b2caf98ebe462d0388efa3a70abb68f2b37e1fb19e164064c3062d", func := "claviger/clavigerlaw13.ShardTells", spec := "shardTells", apart := false, narrowed := true }
def ShardTellsUptoSaid : Prop := shardTellsUptoRow.holds Try.pinned (OpenSpec.upto shardTellsSpec)

/-- 'clavigerlaw13.ShardHomes', WHERE WHAT IT READS IS OF BULK AT MOST 1048576: true; the input reads as it did. -/
def shardHomesUptoRow : OpenClaim := { program := "ytlebanghcbkejaa", sum := "ade91b6466b2caf98ebe462d0388efa3a70abb68f2b37e1fb19e164064c3062d", func := "claviger/clavigerlaw13.ShardHomes", spec := "shardHomes", apart := false, narrowed := true }
def ShardHomesUptoSaid : Prop := shardHomesUptoRow.holds Try.pinned (OpenSpec.upto shardHomesSpec)

/-- 'clavigerlaw13.ShardMembers', WHERE WHAT IT READS IS OF BULK AT MOST 1048576: true; the input reads as it did. -/
def shardMembersUptoRow : OpenClaim := { program := "ytlebanghcbkejaa", sum := "ade91b6466b2caf98ebe462d0388efa3a70abb68f2b37e1fb19e164064c3062d", func := "claviger/clavigerlaw13.ShardMembers", spec := "shardMembers", apart := false, narrowed := true }
def ShardMembersUptoSaid : Prop := shardMembersUptoRow.holds Try.pinned (OpenSpec.upto shardMembersSpec)

end Rows
end Go.Proofs.Ytlebanghcbkejaa
