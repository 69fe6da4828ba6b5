/-
  No cell of these rows narrows 'for every input' (looked for: loops, veiled, ifaces, maps, wideKeys, modest, calm, conditions, laid).
  DERIVED. THE GIVEN ROWS OF THIS SEAT. 9 by the template 'for every input the law returns true; each argument reads behind the call as it read before'; 0 by the template 'total and deterministic' (their statements: YtopamplmpfndlaaTotals.lean).
  GIVEN WITH THE SEED: the statements are not yours to turn. If you find one false, say at which input.
  Laid BY PROGRAM, IN A SANDBOX (cutbox-rows.mjs): the forced cells as the released guide's own fill.sh prints them over the translation 714f14d30f1ec34f… (all of the seat's roots in one cut). By AI agents, Wed Nov 11 2026. No macro, syntax, notation, axiom, sorry.
-/
import Derived.Test.YtopamplmpfndlaaChecked
import GoSem.Claim
import GoSem.ClaimJoined
import GoSem.ClaimMapViews
import Derived.JoinedTies
import Derived.KernelRfl
namespace Go.Proofs.Ytopamplmpfndlaa
/- THE CELL 'sum', in the pinned program and in every row, IS THE sha256 OF THE DUMP (.gsa) THAT YtopamplmpfndlaaProg.lean LOADS. Nothing in Lean hashes anything: it is a label: what it is worth is what the hold of that sum in a sandbox is worth. -/
noncomputable def Try.pinned : Pinned := { name := "ytopamplmpfndlaa", sum := "714f14d30f1ec34f45f4ef141fbaf9e8812b5708bf2058336422ba4190a78b08", checked := Try.checked }
namespace Rows
def none {H : Type} : Left H := { results := [], args := [] }

/-- 'clavigerlaw22.ClientNumbers': WHATEVER THE INPUT: true; the input reads as it did. -/
def clientNumbersSpec : ChangeSpec := { name := "clientNumbers", fn := fun _ => fun
  | [] => { results := [.lit (.bool true)], args := [] }
  | _ => none }
def clientNumbersRow : OpenClaim := { program := "ytopamplmpfndlaa", sum := "714f14d30f1ec34f45f4ef141fbaf9e8812b5708bf2058336422ba4190a78b08", func := "claviger/clavigerlaw22.ClientNumbers", spec := "clientNumbers", plainKeys := false, apart := false }
def ClientNumbersSaid : Prop := clientNumbersRow.holds Try.pinned (OpenSpec.ofChange clientNumbersSpec)

/-- ITS FALSE NEIGHBOUR: 'it returns false'. Refute it at one input. -/
def clientNumbersWrong : ChangeSpec := { name := "clientNumbers", fn := fun _ => fun
  | [] => { results := [.lit (.bool false)], args := [] }
  | _ => none }
def ClientNumbersWrongFalsely : Prop := clientNumbersRow.holds Try.pinned (OpenSpec.ofChange clientNumbersWrong)

/-- 'clavigerlaw22.ClientPlays': WHATEVER THE INPUT: true; the input reads as it did. -/
def clientPlaysSpec : ChangeSpec := { name := "clientPlays", fn := fun _ => fun
  | [d1, d2, d3] => { results := [.lit (.bool true)], args := [d1, d2, d3] }
  | _ => none }
def clientPlaysRow : OpenClaim := { program := "ytopamplmpfndlaa", sum := "714f14d30f1ec34f45f4ef141fbaf9e8812b5708bf2058336422ba4190a78b08", func := "claviger/clavigerlaw22.ClientPlays", spec := "clientPlays", plainKeys := false, apart := false }
def ClientPlaysSaid : Prop := clientPlaysRow.holds Try.pinned (OpenSpec.ofChange clientPlaysSpec)

/-- ITS FALSE NEIGHBOUR: 'it returns false'. Refute it at one input. -/
def clientPlaysWrong : ChangeSpec := { name := "clientPlays", fn := fun _ => fun
  | [d1, d2, d3] => { results := [.lit (.bool false)], args := [d1, d2, d3] }
  | _ => none }
def ClientPlaysWrongFalsely : Prop := clientPlaysRow.holds Try.pinned (OpenSpec.ofChange clientPlaysWrong)

/-- 'clavigerlaw22.ClientTells': WHATEVER THE INPUT: true; the input reads as it did. -/
def clientTellsSpec : ChangeSpec := { name := "clientTells", fn := fun _ => fun
  | [d1, d2, d3, d4, d5] => { results := [.lit (.bool true)], args := [d1, d2, d3, d4, d5] }
  | _ => none }
def clientTellsRow : OpenClaim := { program := "ytopamplmpfndlaa", sum := "714f14d30f1ec34f45f4ef141fbaf9e8812b5708bf2058336422ba4190a78b08", func := "claviger/clavigerlaw22.ClientTells", spec := "clientTells", plainKeys := false, apart := false }
def ClientTellsSaid : Prop := clientTellsRow.holds Try.pinned (OpenSpec.ofChange clientTellsSpec)

/-- ITS FALSE NEIGHBOUR: 'it returns false'. Refute it at one input. -/
def clientTellsWrong : ChangeSpec := { name := "clientTells", fn := fun _ => fun
  | [d1, d2, d3, d4, d5] => { results := [.lit (.bool false)], args := [d1, d2, d3, d4, d5] }
  | _ => none }
def ClientTellsWrongFalsely : Prop := clientTellsRow.holds Try.pinned (OpenSpec.ofChange clientTellsWrong)

/-- 'clavigerlaw22.ClientKeys': WHATEVER THE INPUT: true; the input reads as it did. -/
def clientKeysSpec : ChangeSpec := { name := "clientKeys", fn := fun _ => fun
  | [d1, d2, d3] => { results := [.lit (.bool true)], args := [d1, d2, d3] }
  | _ => none }
def clientKeysRow : OpenClaim := { program := "ytopamplmpfndlaa", sum := "714f14d30f1ec34f45f4ef141fbaf9e8812b5708bf2058336422ba4190a78b08", func := "claviger/clavigerlaw22.ClientKeys", spec := "clientKeys", plainKeys := false, apart := false }
def ClientKeysSaid : Prop := clientKeysRow.holds Try.pinned (OpenSpec.ofChange clientKeysSpec)

/-- ITS FALSE NEIGHBOUR: 'it returns false'. Refute it at one input. -/
def clientKeysWrong : ChangeSpec := { name := "clientKeys", fn := fun _ => fun
  | [d1, d2, d3] => { results := [.lit (.bool false)], args := [d1, d2, d3] }
  | _ => none }
def ClientKeysWrongFalsely : Prop := clientKeysRow.holds Try.pinned (OpenSpec.ofChange clientKeysWrong)

/-- 'clavigerlaw22.ClientNums': WHATEVER THE INPUT: true; the input reads as it did. -/
def clientNumsSpec : ChangeSpec := { name := "clientNums", fn := fun _ => fun
  | [d1, d2] => { results := [.lit (.bool true)], args := [d1, d2] }
  | _ => none }
def clientNumsRow : OpenClaim := { program := "ytopamplmpfndlaa", sum := "714f14d30f1ec34f45f4ef141fbaf9e8812b5708bf2058336422ba4190a78b08", func := "claviger/clavigerlaw22.ClientNums", spec := "clientNums", plainKeys := false, apart := false }
def ClientNumsSaid : Prop := clientNumsRow.holds Try.pinned (OpenSpec.ofChange clientNumsSpec)

/-- ITS FALSE NEIGHBOUR: 'it returns false'. Refute it at one input. -/
def clientNumsWrong : ChangeSpec := { name := "clientNums", fn := fun _ => fun
  | [d1, d2] => { results := [.lit (.bool false)], args := [d1, d2] }
  | _ => none }
def ClientNumsWrongFalsely : Prop := clientNumsRow.holds Try.pinned (OpenSpec.ofChange clientNumsWrong)

/-- 'clavigerlaw3.StretchTells': WHATEVER THE INPUT: true; the input reads as it did. -/
def stretchTellsSpec : ChangeSpec := { name := "stretchTells", fn := fun _ => fun
  | [d1, d2, d3, d4, d5] => { results := [.lit (.bool true)], args := [d1, d2, d3, d4, d5] }
  | _ => none }
def stretchTellsRow : OpenClaim := { program := "ytopamplmpfndlaa", sum := "714f14d30f1ec34f45f4ef141fbaf9e8812b5708bf2058336422ba4190a78b08", func := "claviger/clavigerlaw3.StretchTells", spec := "stretchTells", plainKeys := false, apart := false }
def StretchTellsSaid : Prop := stretchTellsRow.holds Try.pinned (OpenSpec.ofChange stretchTellsSpec)

/-- ITS FALSE NEIGHBOUR: 'it returns false'. Refute it at one input. -/
def stretchTellsWrong : ChangeSpec := { name := "stretchTells", fn := fun _ => fun
  | [d1, d2, d3, d4, d5] => { results := [.lit (.bool false)], args := [d1, d2, d3, d4, d5] }
  | _ => none }
def StretchTellsWrongFalsely : Prop := stretchTellsRow.holds Try.pinned (OpenSpec.ofChange stretchTellsWrong)

/-- 'clavigerlaw5.EnvelopeTells': WHATEVER THE INPUT: true; the input reads as it did. -/
def envelopeTellsSpec : ChangeSpec := { name := "envelopeTells", fn := fun _ => fun
  | [d1, d2, d3, d4, d5, d6, d7, d8, d9] => { results := [.lit (.bool true)], args := [d1, d2, d3, d4, d5, d6, d7, d8, d9] }
  | _ => none }
def envelopeTellsRow : OpenClaim := { program := "ytopamplmpfndlaa", sum := "714f14d30f1ec34f45f4ef141fbaf9e8812b5708bf2058336422ba4190a78b08", func := "claviger/clavigerlaw5.EnvelopeTells", spec := "envelopeTells", plainKeys := false, apart := false }
def EnvelopeTellsSaid : Prop := envelopeTellsRow.holds Try.pinned (OpenSpec.ofChange envelopeTellsSpec)

/-- ITS FALSE NEIGHBOUR: 'it returns false'. Refute it at one input. -/
def envelopeTellsWrong : ChangeSpec := { name := "envelopeTells", fn := fun _ => fun
  | [d1, d2, d3, d4, d5, d6, d7, d8, d9] => { results := [.lit (.bool false)], args := [d1, d2, d3, d4, d5, d6, d7, d8, d9] }
  | _ => none }
def EnvelopeTellsWrongFalsely : Prop := envelopeTellsRow.holds Try.pinned (OpenSpec.ofChange envelopeTellsWrong)

/-- 'clavigerlaw16.StateKeeps': WHATEVER THE INPUT: true; the input reads as it did. -/
def stateKeepsSpec : ChangeSpec := { name := "stateKeeps", fn := fun _ => fun
  | [d] => { results := [.lit (.bool true)], args := [d] }
  | _ => none }
def stateKeepsRow : OpenClaim := { program := "ytopamplmpfndlaa", sum := "714f14d30f1ec34f45f4ef141fbaf9e8812b5708bf2058336422ba4190a78b08", func := "claviger/clavigerlaw16.StateKeeps", spec := "stateKeeps", inPlace := ["internal/bytealg.Compare", "slices.overlaps[claviger/api.Vault]"], unfollowed := true, recurses := true, plainKeys := false, apart := false }
def StateKeepsSaid : Prop := stateKeepsRow.holds Try.pinned (OpenSpec.ofChange stateKeepsSpec)

/-- ITS FALSE NEIGHBOUR: 'it returns false'. Refute it at one input. -/
def stateKeepsWrong : ChangeSpec := { name := "stateKeeps", fn := fun _ => fun
  | [d] => { results := [.lit (.bool false)], args := [d] }
  | _ => none }
def StateKeepsWrongFalsely : Prop := stateKeepsRow.holds Try.pinned (OpenSpec.ofChange stateKeepsWrong)

/-- 'clavigerlaw23.IdealPlays': WHATEVER THE INPUT: true; the input reads as it did. -/
def idealPlaysSpec : ChangeSpec := { name := "idealPlays", fn := fun _ => fun
  | [d1, d2] => { results := [.lit (.bool true)], args := [d1, d2] }
  | _ => none }
def idealPlaysRow : OpenClaim := { program := "ytopamplmpfndlaa", sum := "714f14d30f1ec34f45f4ef141fbaf9e8812b5708bf2058336422ba4190a78b08", func := "claviger/clavigerlaw23.IdealPlays", spec := "idealPlays", inPlace := ["internal/bytealg.Compare", "slices.overlaps[claviger/api.Vault]"], unfollowed := true, recurses := true, plainKeys := false, apart := false }
def IdealPlaysSaid : Prop := idealPlaysRow.holds Try.pinned (OpenSpec.ofChange idealPlaysSpec)

/-- ITS FALSE NEIGHBOUR: 'it returns false'. Refute it at one input. -/
def idealPlaysWrong : ChangeSpec := { name := "idealPlays", fn := fun _ => fun
  | [d1, d2] => { results := [.lit (.bool false)], args := [d1, d2] }
  | _ => none }
def IdealPlaysWrongFalsely : Prop := idealPlaysRow.holds Try.pinned (OpenSpec.ofChange idealPlaysWrong)

/- THE SECOND FORM. 'bulk': how many values and letters a reading holds, each counted each time it is reached (what is shared counts as often as it is met; a slice's spare places count too). A statement '..UptoSaid' is the law's where the arguments, and the package variables that the reading takes, are together of bulk at most 1048576: NARROWER than '..Said'. Prove '..Said' where nothing that the law and all that it calls make is longer than what came in: it says more and counts as full. Else prove '..UptoSaid'. A law counts once. -/
mutual
def uptoBulk {H : Type} : DataW H → Nat
  | .lit (.string bytes) => bytes.length + 1
  | .lit _ => 1
  | .nil => 1
  | .ptr d => uptoBulk d + 1
  | .slice elems spare => uptoBulkAll elems + uptoBulkAll spare + 1
  | .agg parts => uptoBulkAll parts + 1
  | .iface _ d => uptoBulk d + 1
  | .map entries => uptoBulkEntries entries + 1
  | .held _ => 1
def uptoBulkAll {H : Type} : List (DataW H) → Nat
  | [] => 0
  | d :: r => uptoBulk d + uptoBulkAll r
def uptoBulkEntries {H : Type} : List (Lit × DataW H) → Nat
  | [] => 0
  | x :: r => uptoBulkEntry x + uptoBulkEntries r
def uptoBulkEntry {H : Type} : Lit × DataW H → Nat
  | (.string bytes, d) => bytes.length + uptoBulk d + 1
  | (_, d) => uptoBulk d + 1
 end
def uptoSmall : (H : Type) → List (DataW H) → Bool := fun _ ds => decide (uptoBulkAll ds ≤ 1048576)
def OpenSpec.upto (s : _root_.Go.ChangeSpec) : _root_.Go.OpenSpec := { _root_.Go.OpenSpec.ofChange s with cond := some uptoSmall }

/-- 'clavigerlaw22.ClientNumbers', WHERE WHAT IT READS IS OF BULK AT MOST 1048576: true; the input reads as it did. -/
def clientNumbersUptoRow : OpenClaim := { program := "ytopamplmpfndlaa", sum := "714f14d30f1ec34f45f4ef141fbaf9e8812b5708bf2058336422ba4190a78b08", func := "claviger/clavigerlaw22.ClientNumbers", spec := "clientNumbers", plainKeys := false, apart := false, narrowed := true }
def ClientNumbersUptoSaid : Prop := clientNumbersUptoRow.holds Try.pinned (OpenSpec.upto clientNumbersSpec)

/-- 'clavigerlaw22.ClientPlays', WHERE WHAT IT READS IS OF BULK AT MOST 1048576: true; the input reads as it did. -/
def clientPlaysUptoRow : OpenClaim := { program := "ytopamplmpfndlaa", sum := "714f14d30f1ec34f45f4ef141fbaf9e8812b5708bf2058336422ba4190a78b08", func := "claviger/clavigerlaw22.ClientPlays", spec := "clientPlays", plainKeys := false, apart := false, narrowed := true }
def ClientPlaysUptoSaid : Prop := clientPlaysUptoRow.holds Try.pinned (OpenSpec.upto clientPlaysSpec)

/-- 'clavigerlaw22.ClientTells', WHERE WHAT IT READS IS OF BULK AT MOST 1048576: true; the input reads as it did. -/
def clientTellsUptoRow : OpenClaim := { program := "ytopamplmpfndlaa", sum := "714f14d30f1ec34f45f4ef141fbaf9e8812b5708bf2058336422ba4190a78b08", func := "claviger/clavigerlaw22.ClientTells", spec := "clientTells", plainKeys := false, apart := false, narrowed := true }
def ClientTellsUptoSaid : Prop := clientTellsUptoRow.holds Try.pinned (OpenSpec.upto clientTellsSpec)

/-- 'clavigerlaw22.ClientKeys', WHERE WHAT IT READS IS OF BULK AT MOST 1048576: true; the input reads as it did. -/
def clientKeysUptoRow : OpenClaim := { program := "ytopamplmpfndlaa", sum := "714f14d30f1ec34f45f4ef141fbaf9e8812b5708bf2058336422ba4190a78b08", func := "claviger/clavigerlaw22.ClientKeys", spec := "clientKeys", plainKeys := false, apart := false, narrowed := true }
def ClientKeysUptoSaid : Prop := clientKeysUptoRow.holds Try.pinned (OpenSpec.upto clientKeysSpec)

/-- 'clavigerlaw22.ClientNums', WHERE WHAT IT READS IS OF BULK AT MOST 1048576: true; the input reads as it did. -/
def clientNumsUptoRow : OpenClaim := { program := "ytopamplmpfndlaa", sum := "714f14d30f1ec34f45f4ef141fbaf9e8812b5708bf2058336422ba4190a78b08", func := "claviger/clavigerlaw22.ClientNums", spec := "clientNums", plainKeys := false, apart := false, narrowed := true }
def ClientNumsUptoSaid : Prop := clientNumsUptoRow.holds Try.pinned (OpenSpec.upto clientNumsSpec)

/-- 'clavigerlaw3.StretchTells', WHERE WHAT IT READS IS OF BULK AT MOST 1048576: true; the input reads as it did. -/
def stretchTellsUptoRow : OpenClaim := { program := "ytopamplmpfndlaa", sum := "714f14d30f1ec34f45f4ef141fbaf9e8812b5708bf2058336422ba4190a78b08", func := "claviger/clavigerlaw3.StretchTells", spec := "stretchTells", plainKeys := false, apart := false, narrowed := true }
def StretchTellsUptoSaid : Prop := stretchTellsUptoRow.holds Try.pinned (OpenSpec.upto stretchTellsSpec)

/-- 'clavigerlaw5.EnvelopeTells', WHERE WHAT IT READS IS OF BULK AT MOST 1048576: true; the input reads as it did. -/
def envelopeTellsUptoRow : OpenClaim := { program := "ytopamplmpfndlaa", sum := "714f14d30f1ec34f45f4ef141fbaf9e8812b5708bf2058336422ba4190a78b08", func := "claviger/clavigerlaw5.EnvelopeTells", spec := "envelopeTells", plainKeys := false, apart := false, narrowed := true }
def EnvelopeTellsUptoSaid : Prop := envelopeTellsUptoRow.holds Try.pinned (OpenSpec.upto envelopeTellsSpec)

/-- 'clavigerlaw16.StateKeeps', WHERE WHAT IT READS IS OF BULK AT MOST 1048576: true; the input reads as it did. -/
def stateKeepsUptoRow : OpenClaim := { program := "ytopamplmpfndlaa", sum := "714f14d30f1ec34f45f4ef141fbaf9e8812b5708bf2058336422ba4190a78b08", func := "claviger/clavigerlaw16.StateKeeps", spec := "stateKeeps", inPlace := ["internal/bytealg.Compare", "slices.overlaps[claviger/api.Vault]"], unfollowed := true, recurses := true, plainKeys := false, apart := false, narrowed := true }
def StateKeepsUptoSaid : Prop := stateKeepsUptoRow.holds Try.pinned (OpenSpec.upto stateKeepsSpec)

/-- 'clavigerlaw23.IdealPlays', WHERE WHAT IT READS IS OF BULK AT MOST 1048576: true; the input reads as it did. -/
def idealPlaysUptoRow : OpenClaim := { program := "ytopamplmpfndlaa", sum := "714f14d30f1ec34f45f4ef141fbaf9e8812b5708bf2058336422ba4190a78b08", func := "claviger/clavigerlaw23.IdealPlays", spec := "idealPlays", inPlace := ["internal/bytealg.Compare", "slices.overlaps[claviger/api.Vault]"], unfollowed := true, recurses := true, plainKeys := false, apart := false, narrowed := true }
def IdealPlaysUptoSaid : Prop := idealPlaysUptoRow.holds Try.pinned (OpenSpec.upto idealPlaysSpec)

end Rows
end Go.Proofs.Ytopamplmpfndlaa
