/-
  No cell of these rows narrows 'for every input' (looked for: loops, veiled, ifaces, maps, wideKeys, modest, calm, conditions, laid).
  DERIVED. THE GIVEN ROWS OF THIS SEAT. 17 by the template 'for every input the law returns true; each argument reads behind the call as it read before'; 0 by the template 'total and deterministic' (their statements: YtkneeocicbadjaaTotals.lean).
  GIVEN WITH THE SEED: the statements are not yours to turn. If you find one false, say at which input.
  Laid BY PROGRAM, IN A SANDBOX (cutbox-rows.mjs): the forced cells as the released guide's own fill.sh prints them over the translation 3de036e41c90bb93… (all of the seat's roots in one cut). By AI agents, Wed Nov 11 2026. No macro, syntax, notation, axiom, sorry.
-/
import Derived.Test.YtkneeocicbadjaaChecked
import GoSem.Claim
import GoSem.ClaimJoined
import GoSem.ClaimMapViews
import Derived.JoinedTies
import Derived.KernelRfl
namespace Go.Proofs.Ytkneeocicbadjaa
/- THE CELL 'sum', in the pinned program and in every row, IS THE sha256 OF THE DUMP (.gsa) THAT YtkneeocicbadjaaProg.lean LOADS. Nothing in Lean hashes anything: it is a label: what it is worth is what the hold of that sum in a sandbox is worth. -/
noncomputable def Try.pinned : Pinned := { name := "ytkneeocicbadjaa", sum := "3de036e41c90bb9351258a4565d4803fcc4b7a7610884c68eedb3625552d7988", checked := Try.checked }
namespace Rows
def none {H : Type} : Left H := { results := [], args := [] }

/-- 'clavigerlaw2.BlendNumbers': WHATEVER THE INPUT: true; the input reads as it did. -/
def blendNumbersSpec : ChangeSpec := { name := "blendNumbers", fn := fun _ => fun
  | [] => { results := [.lit (.bool true)], args := [] }
  | _ => none }
def blendNumbersRow : OpenClaim := { program := "ytkneeocicbadjaa", sum := "3de036e41c90bb9351258a4565d4803fcc4b7a7610884c68eedb3625552d7988", func := "claviger/clavigerlaw2.BlendNumbers", spec := "blendNumbers", apart := false }
def BlendNumbersSaid : Prop := blendNumbersRow.holds Try.pinned (OpenSpec.ofChange blendNumbersSpec)

/-- ITS FALSE NEIGHBOUR: 'it returns false'. Refute it at one input. -/
def blendNumbersWrong : ChangeSpec := { name := "blendNumbers", fn := fun _ => fun
  | [] => { results := [.lit (.bool false)], args := [] }
  | _ => none }
def BlendNumbersWrongFalsely : Prop := blendNumbersRow.holds Try.pinned (OpenSpec.ofChange blendNumbersWrong)

/-- 'clavigerlaw2.BlendTells': WHATEVER THE INPUT: true; the input reads as it did. -/
def blendTellsSpec : ChangeSpec := { name := "blendTells", fn := fun _ => fun
  | [d1, d2, d3, d4, d5, d6] => { results := [.lit (.bool true)], args := [d1, d2, d3, d4, d5, d6] }
  | _ => none }
def blendTellsRow : OpenClaim := { program := "ytkneeocicbadjaa", sum := "3de036e41c90bb9351258a4565d4803fcc4b7a7610884c68eedb3625552d7988", func := "claviger/clavigerlaw2.BlendTells", spec := "blendTells", apart := false }
def BlendTellsSaid : Prop := blendTellsRow.holds Try.pinned (OpenSpec.ofChange blendTellsSpec)

/-- ITS FALSE NEIGHBOUR: 'it returns false'. Refute it at one input. -/
def blendTellsWrong : ChangeSpec := { name := "blendTells", fn := fun _ => fun
  | [d1, d2, d3, d4, d5, d6] => { results := [.lit (.bool false)], args := [d1, d2, d3, d4, d5, d6] }
  | _ => none }
def BlendTellsWrongFalsely : Prop := blendTellsRow.holds Try.pinned (OpenSpec.ofChange blendTellsWrong)

/-- 'clavigerlaw2.BlendStreams': WHATEVER THE INPUT: true; the input reads as it did. -/
def blendStreamsSpec : ChangeSpec := { name := "blendStreams", fn := fun _ => fun
  | [d1, d2, d3, d4] => { results := [.lit (.bool true)], args := [d1, d2, d3, d4] }
  | _ => none }
def blendStreamsRow : OpenClaim := { program := "ytkneeocicbadjaa", sum := "3de036e41c90bb9351258a4565d4803fcc4b7a7610884c68eedb3625552d7988", func := "claviger/clavigerlaw2.BlendStreams", spec := "blendStreams", apart := false }
def BlendStreamsSaid : Prop := blendStreamsRow.holds Try.pinned (OpenSpec.ofChange blendStreamsSpec)

/-- ITS FALSE NEIGHBOUR: 'it returns false'. Refute it at one input. -/
def blendStreamsWrong : ChangeSpec := { name := "blendStreams", fn := fun _ => fun
  | [d1, d2, d3, d4] => { results := [.lit (.bool false)], args := [d1, d2, d3, d4] }
  | _ => none }
def BlendStreamsWrongFalsely : Prop := blendStreamsRow.holds Try.pinned (OpenSpec.ofChange blendStreamsWrong)

/-- 'clavigerlaw2.BlendParts': WHATEVER THE INPUT: true; the input reads as it did. -/
def blendPartsSpec : ChangeSpec := { name := "blendParts", fn := fun _ => fun
  | [d1, d2, d3, d4] => { results := [.lit (.bool true)], args := [d1, d2, d3, d4] }
  | _ => none }
def blendPartsRow : OpenClaim := { program := "ytkneeocicbadjaa", sum := "3de036e41c90bb9351258a4565d4803fcc4b7a7610884c68eedb3625552d7988", func := "claviger/clavigerlaw2.BlendParts", spec := "blendParts", apart := false }
def BlendPartsSaid : Prop := blendPartsRow.holds Try.pinned (OpenSpec.ofChange blendPartsSpec)

/-- ITS FALSE NEIGHBOUR: 'it returns false'. Refute it at one input. -/
def blendPartsWrong : ChangeSpec := { name := "blendParts", fn := fun _ => fun
  | [d1, d2, d3, d4] => { results := [.lit (.bool false)], args := [d1, d2, d3, d4] }
  | _ => none }
def BlendPartsWrongFalsely : Prop := blendPartsRow.holds Try.pinned (OpenSpec.ofChange blendPartsWrong)

/-- 'clavigerlaw2.BlendNumber': WHATEVER THE INPUT: true; the input reads as it did. -/
def blendNumberSpec : ChangeSpec := { name := "blendNumber", fn := fun _ => fun
  | [d1, d2] => { results := [.lit (.bool true)], args := [d1, d2] }
  | _ => none }
def blendNumberRow : OpenClaim := { program := "ytkneeocicbadjaa", sum := "3de036e41c90bb9351258a4565d4803fcc4b7a7610884c68eedb3625552d7988", func := "claviger/clavigerlaw2.BlendNumber", spec := "blendNumber", apart := false }
def BlendNumberSaid : Prop := blendNumberRow.holds Try.pinned (OpenSpec.ofChange blendNumberSpec)

/-- ITS FALSE NEIGHBOUR: 'it returns false'. Refute it at one input. -/
def blendNumberWrong : ChangeSpec := { name := "blendNumber", fn := fun _ => fun
  | [d1, d2] => { results := [.lit (.bool false)], args := [d1, d2] }
  | _ => none }
def BlendNumberWrongFalsely : Prop := blendNumberRow.holds Try.pinned (OpenSpec.ofChange blendNumberWrong)

/-- 'clavigerlaw3.StretchNumbers': WHATEVER THE INPUT: true; the input reads as it did. -/
def stretchNumbersSpec : ChangeSpec := { name := "stretchNumbers", fn := fun _ => fun
  | [] => { results := [.lit (.bool true)], args := [] }
  | _ => none }
def stretchNumbersRow : OpenClaim := { program := "ytkneeocicbadjaa", sum := "3de036e41c90bb9351258a4565d4803fcc4b7a7610884c68eedb3625552d7988", func := "claviger/clavigerlaw3.StretchNumbers", spec := "stretchNumbers", apart := false }
def StretchNumbersSaid : Prop := stretchNumbersRow.holds Try.pinned (OpenSpec.ofChange stretchNumbersSpec)

/-- ITS FALSE NEIGHBOUR: 'it returns false'. Refute it at one input. -/
def stretchNumbersWrong : ChangeSpec := { name := "stretchNumbers", fn := fun _ => fun
  | [] => { results := [.lit (.bool false)], args := [] }
  | _ => none }
def StretchNumbersWrongFalsely : Prop := stretchNumbersRow.holds Try.pinned (OpenSpec.ofChange stretchNumbersWrong)

/-- 'clavigerlaw3.StretchTells': WHATEVER THE INPUT: true; the input reads as it did. -/
def stretchTellsSpec : ChangeSpec := { name := "stretchTells", fn := fun _ => fun
  | [d1, d2, d3, d4, d5] => { results := [.lit (.bool true)], args := [d1, d2, d3, d4, d5] }
  | _ => none }
def stretchTellsRow : OpenClaim := { program := "ytkneeocicbadjaa", sum := "3de036e41c90bb9351258a4565d4803fcc4b7a7610884c68eedb3625552d7988", func := "claviger/clavigerlaw3.StretchTells", spec := "stretchTells", apart := false }
def StretchTellsSaid : Prop := stretchTellsRow.holds Try.pinned (OpenSpec.ofChange stretchTellsSpec)

/-- ITS FALSE NEIGHBOUR: 'it returns false'. Refute it at one input. -/
def stretchTellsWrong : ChangeSpec := { name := "stretchTells", fn := fun _ => fun
  | [d1, d2, d3, d4, d5] => { results := [.lit (.bool false)], args := [d1, d2, d3, d4, d5] }
  | _ => none }
def StretchTellsWrongFalsely : Prop := stretchTellsRow.holds Try.pinned (OpenSpec.ofChange stretchTellsWrong)

/-- 'clavigerlaw3.StretchRounds': WHATEVER THE INPUT: true; the input reads as it did. -/
def stretchRoundsSpec : ChangeSpec := { name := "stretchRounds", fn := fun _ => fun
  | [d1, d2, d3] => { results := [.lit (.bool true)], args := [d1, d2, d3] }
  | _ => none }
def stretchRoundsRow : OpenClaim := { program := "ytkneeocicbadjaa", sum := "3de036e41c90bb9351258a4565d4803fcc4b7a7610884c68eedb3625552d7988", func := "claviger/clavigerlaw3.StretchRounds", spec := "stretchRounds", apart := false }
def StretchRoundsSaid : Prop := stretchRoundsRow.holds Try.pinned (OpenSpec.ofChange stretchRoundsSpec)

/-- ITS FALSE NEIGHBOUR: 'it returns false'. Refute it at one input. -/
def stretchRoundsWrong : ChangeSpec := { name := "stretchRounds", fn := fun _ => fun
  | [d1, d2, d3] => { results := [.lit (.bool false)], args := [d1, d2, d3] }
  | _ => none }
def StretchRoundsWrongFalsely : Prop := stretchRoundsRow.holds Try.pinned (OpenSpec.ofChange stretchRoundsWrong)

/-- 'clavigerlaw3.StretchScripts': WHATEVER THE INPUT: true; the input reads as it did. -/
def stretchScriptsSpec : ChangeSpec := { name := "stretchScripts", fn := fun _ => fun
  | [d1, d2, d3, d4] => { results := [.lit (.bool true)], args := [d1, d2, d3, d4] }
  | _ => none }
def stretchScriptsRow : OpenClaim := { program := "ytkneeocicbadjaa", sum := "3de036e41c90bb9351258a4565d4803fcc4b7a7610884c68eedb3625552d7988", func := "claviger/clavigerlaw3.StretchScripts", spec := "stretchScripts", apart := false }
def StretchScriptsSaid : Prop := stretchScriptsRow.holds Try.pinned (OpenSpec.ofChange stretchScriptsSpec)

/-- ITS FALSE NEIGHBOUR: 'it returns false'. Refute it at one input. -/
def stretchScriptsWrong : ChangeSpec := { name := "stretchScripts", fn := fun _ => fun
  | [d1, d2, d3, d4] => { results := [.lit (.bool false)], args := [d1, d2, d3, d4] }
  | _ => none }
def StretchScriptsWrongFalsely : Prop := stretchScriptsRow.holds Try.pinned (OpenSpec.ofChange stretchScriptsWrong)

/-- 'clavigerlaw4.VeilNumbers': WHATEVER THE INPUT: true; the input reads as it did. -/
def veilNumbersSpec : ChangeSpec := { name := "veilNumbers", fn := fun _ => fun
  | [] => { results := [.lit (.bool true)], args := [] }
  | _ => none }
def veilNumbersRow : OpenClaim := { program := "ytkneeocicbadjaa", sum := "3de036e41c90bb9351258a4565d4803fcc4b7a7610884c68eedb3625552d7988", func := "claviger/clavigerlaw4.VeilNumbers", spec := "veilNumbers", apart := false }
def VeilNumbersSaid : Prop := veilNumbersRow.holds Try.pinned (OpenSpec.ofChange veilNumbersSpec)

/-- ITS FALSE NEIGHBOUR: 'it returns false'. Refute it at one input. -/
def veilNumbersWrong : ChangeSpec := { name := "veilNumbers", fn := fun _ => fun
  | [] => { results := [.lit (.bool false)], args := [] }
  | _ => none }
def VeilNumbersWrongFalsely : Prop := veilNumbersRow.holds Try.pinned (OpenSpec.ofChange veilNumbersWrong)

/-- 'clavigerlaw4.VeilTells': WHATEVER THE INPUT: true; the input reads as it did. -/
def veilTellsSpec : ChangeSpec := { name := "veilTells", fn := fun _ => fun
  | [d1, d2, d3, d4, d5, d6, d7, d8, d9] => { results := [.lit (.bool true)], args := [d1, d2, d3, d4, d5, d6, d7, d8, d9] }
  | _ => none }
def veilTellsRow : OpenClaim := { program := "ytkneeocicbadjaa", sum := "3de036e41c90bb9351258a4565d4803fcc4b7a7610884c68eedb3625552d7988", func := "claviger/clavigerlaw4.VeilTells", spec := "veilTells", apart := false }
def VeilTellsSaid : Prop := veilTellsRow.holds Try.pinned (OpenSpec.ofChange veilTellsSpec)

/-- ITS FALSE NEIGHBOUR: 'it returns false'. Refute it at one input. -/
def veilTellsWrong : ChangeSpec := { name := "veilTells", fn := fun _ => fun
  | [d1, d2, d3, d4, d5, d6, d7, d8, d9] => { results := [.lit (.bool false)], args := [d1, d2, d3, d4, d5, d6, d7, d8, d9] }
  | _ => none }
def VeilTellsWrongFalsely : Prop := veilTellsRow.holds Try.pinned (OpenSpec.ofChange veilTellsWrong)

/-- 'clavigerlaw4.VeilBack': WHATEVER THE INPUT: true; the input reads as it did. -/
def veilBackSpec : ChangeSpec := { name := "veilBack", fn := fun _ => fun
  | [d1, d2, d3, d4] => { results := [.lit (.bool true)], args := [d1, d2, d3, d4] }
  | _ => none }
def veilBackRow : OpenClaim := { program := "ytkneeocicbadjaa", sum := "3de036e41c90bb9351258a4565d4803fcc4b7a7610884c68eedb3625552d7988", func := "claviger/clavigerlaw4.VeilBack", spec := "veilBack", apart := false }
def VeilBackSaid : Prop := veilBackRow.holds Try.pinned (OpenSpec.ofChange veilBackSpec)

/-- ITS FALSE NEIGHBOUR: 'it returns false'. Refute it at one input. -/
def veilBackWrong : ChangeSpec := { name := "veilBack", fn := fun _ => fun
  | [d1, d2, d3, d4] => { results := [.lit (.bool false)], args := [d1, d2, d3, d4] }
  | _ => none }
def VeilBackWrongFalsely : Prop := veilBackRow.holds Try.pinned (OpenSpec.ofChange veilBackWrong)

/-- 'clavigerlaw4.VeilTurns': WHATEVER THE INPUT: true; the input reads as it did. -/
def veilTurnsSpec : ChangeSpec := { name := "veilTurns", fn := fun _ => fun
  | [d1, d2, d3, d4, d5] => { results := [.lit (.bool true)], args := [d1, d2, d3, d4, d5] }
  | _ => none }
def veilTurnsRow : OpenClaim := { program := "ytkneeocicbadjaa", sum := "3de036e41c90bb9351258a4565d4803fcc4b7a7610884c68eedb3625552d7988", func := "claviger/clavigerlaw4.VeilTurns", spec := "veilTurns", apart := false }
def VeilTurnsSaid : Prop := veilTurnsRow.holds Try.pinned (OpenSpec.ofChange veilTurnsSpec)

/-- ITS FALSE NEIGHBOUR: 'it returns false'. Refute it at one input. -/
def veilTurnsWrong : ChangeSpec := { name := "veilTurns", fn := fun _ => fun
  | [d1, d2, d3, d4, d5] => { results := [.lit (.bool false)], args := [d1, d2, d3, d4, d5] }
  | _ => none }
def VeilTurnsWrongFalsely : Prop := veilTurnsRow.holds Try.pinned (OpenSpec.ofChange veilTurnsWrong)

/-- 'clavigerlaw5.EnvelopeNumbers': WHATEVER THE INPUT: true; the input reads as it did. -/
def envelopeNumbersSpec : ChangeSpec := { name := "envelopeNumbers", fn := fun _ => fun
  | [] => { results := [.lit (.bool true)], args := [] }
  | _ => none }
def envelopeNumbersRow : OpenClaim := { program := "ytkneeocicbadjaa", sum := "3de036e41c90bb9351258a4565d4803fcc4b7a7610884c68eedb3625552d7988", func := "claviger/clavigerlaw5.EnvelopeNumbers", spec := "envelopeNumbers", apart := false }
def EnvelopeNumbersSaid : Prop := envelopeNumbersRow.holds Try.pinned (OpenSpec.ofChange envelopeNumbersSpec)

/-- ITS FALSE NEIGHBOUR: 'it returns false'. Refute it at one input. -/
def envelopeNumbersWrong : ChangeSpec := { name := "envelopeNumbers", fn := fun _ => fun
  | [] => { results := [.lit (.bool false)], args := [] }
  | _ => none }
def EnvelopeNumbersWrongFalsely : Prop := envelopeNumbersRow.holds Try.pinned (OpenSpec.ofChange envelopeNumbersWrong)

/-- 'clavigerlaw5.EnvelopeTells': WHATEVER THE INPUT: true; the input reads as it did. -/
def envelopeTellsSpec : ChangeSpec := { name := "envelopeTells", fn := fun _ => fun
  | [d1, d2, d3, d4, d5, d6, d7, d8, d9] => { results := [.lit (.bool true)], args := [d1, d2, d3, d4, d5, d6, d7, d8, d9] }
  | _ => none }
def envelopeTellsRow : OpenClaim := { program := "ytkneeocicbadjaa", sum := "3de036e41c90bb9351258a4565d4803fcc4b7a7610884c68eedb3625552d7988", func := "claviger/clavigerlaw5.EnvelopeTells", spec := "envelopeTells", apart := false }
def EnvelopeTellsSaid : Prop := envelopeTellsRow.holds Try.pinned (OpenSpec.ofChange envelopeTellsSpec)

/-- ITS FALSE NEIGHBOUR: 'it returns false'. Refute it at one input. -/
def envelopeTellsWrong : ChangeSpec := { name := "envelopeTells", fn := fun _ => fun
  | [d1, d2, d3, d4, d5, d6, d7, d8, d9] => { results := [.lit (.bool false)], args := [d1, d2, d3, d4, d5, d6, d7, d8, d9] }
  | _ => none }
def EnvelopeTellsWrongFalsely : Prop := envelopeTellsRow.holds Try.pinned (OpenSpec.ofChange envelopeTellsWrong)

/-- 'clavigerlaw5.EnvelopeBack': WHATEVER THE INPUT: true; the input reads as it did. -/
def envelopeBackSpec : ChangeSpec := { name := "envelopeBack", fn := fun _ => fun
  | [d1, d2, d3, d4] => { results := [.lit (.bool true)], args := [d1, d2, d3, d4] }
  | _ => none }
def envelopeBackRow : OpenClaim := { program := "ytkneeocicbadjaa", sum := "3de036e41c90bb9351258a4565d4803fcc4b7a7610884c68eedb3625552d7988", func := "claviger/clavigerlaw5.EnvelopeBack", spec := "envelopeBack", apart := false }
def EnvelopeBackSaid : Prop := envelopeBackRow.holds Try.pinned (OpenSpec.ofChange envelopeBackSpec)

/-- ITS FALSE NEIGHBOUR: 'it returns false'. Refute it at one input. -/
def envelopeBackWrong : ChangeSpec := { name := "envelopeBack", fn := fun _ => fun
  | [d1, d2, d3, d4] => { results := [.lit (.bool false)], args := [d1, d2, d3, d4] }
  | _ => none }
def EnvelopeBackWrongFalsely : Prop := envelopeBackRow.holds Try.pinned (OpenSpec.ofChange envelopeBackWrong)

/-- 'clavigerlaw5.EnvelopeSeeds': WHATEVER THE INPUT: true; the input reads as it did. -/
def envelopeSeedsSpec : ChangeSpec := { name := "envelopeSeeds", fn := fun _ => fun
  | [d1, d2, d3] => { results := [.lit (.bool true)], args := [d1, d2, d3] }
  | _ => none }
def envelopeSeedsRow : OpenClaim := { program := "ytkneeocicbadjaa", sum := "3de036e41c90bb9351258a4565d4803fcc4b7a7610884c68eedb3625552d7988", func := "claviger/clavigerlaw5.EnvelopeSeeds", spec := "envelopeSeeds", apart := false }
def EnvelopeSeedsSaid : Prop := envelopeSeedsRow.holds Try.pinned (OpenSpec.ofChange envelopeSeedsSpec)

/-- ITS FALSE NEIGHBOUR: 'it returns false'. Refute it at one input. -/
def envelopeSeedsWrong : ChangeSpec := { name := "envelopeSeeds", fn := fun _ => fun
  | [d1, d2, d3] => { results := [.lit (.bool false)], args := [d1, d2, d3] }
  | _ => none }
def EnvelopeSeedsWrongFalsely : Prop := envelopeSeedsRow.holds Try.pinned (OpenSpec.ofChange envelopeSeedsWrong)

/- THE SECOND FORM. 'bulk': how many values and letters a reading holds, each counted each time it is reached (what is shared counts as often as it is met; a slice's spare places count too). A statement '..UptoSaid' is the law's where the arguments, and the package variables that the reading takes, are together of bulk at most 1048576: NARROWER than '..Said'. Prove '..Said' where nothing that the law and all that it calls make is longer than what came in: it says more and counts as full. Else prove '..UptoSaid'. A law counts once. -/
mutual
def uptoBulk {H : Type} : DataW H → Nat
  | .lit (.string bytes) => bytes.length + 1
  | .lit _ => 1
  | .nil => 1
  | .ptr d => uptoBulk d + 1
  | .slice elems spare => uptoBulkAll elems + uptoBulkAll spare + 1
  | .agg parts => uptoBulkAll parts + 1
  | .iface _ d => uptoBulk d + 1
  | .map entries => uptoBulkEntries entries + 1
  | .held _ => 1
def uptoBulkAll {H : Type} : List (DataW H) → Nat
  | [] => 0
  | d :: r => uptoBulk d + uptoBulkAll r
def uptoBulkEntries {H : Type} : List (Lit × DataW H) → Nat
  | [] => 0
  | x :: r => uptoBulkEntry x + uptoBulkEntries r
def uptoBulkEntry {H : Type} : Lit × DataW H → Nat
  | (.string bytes, d) => bytes.length + uptoBulk d + 1
  | (_, d) => uptoBulk d + 1
 end
def uptoSmall : (H : Type) → List (DataW H) → Bool := fun _ ds => decide (uptoBulkAll ds ≤ 1048576)
def OpenSpec.upto (s : _root_.Go.ChangeSpec) : _root_.Go.OpenSpec := { _root_.Go.OpenSpec.ofChange s with cond := some uptoSmall }

/-- 'clavigerlaw2.BlendNumbers', WHERE WHAT IT READS IS OF BULK AT MOST 1048576: true; the input reads as it did. -/
def blendNumbersUptoRow : OpenClaim := { program := "ytkneeocicbadjaa", sum := "3de036e41c90bb9351258a4565d4803fcc4b7a7610884c68eedb3625552d7988", func := "claviger/clavigerlaw2.BlendNumbers", spec := "blendNumbers", apart := false, narrowed := true }
def BlendNumbersUptoSaid : Prop := blendNumbersUptoRow.holds Try.pinned (OpenSpec.upto blendNumbersSpec)

/-- 'clavigerlaw2.BlendTells', WHERE WHAT IT READS IS OF BULK AT MOST 1048576: true; the input reads as it did. -/
def blendTellsUptoRow : OpenClaim := { program := "ytkneeocicbadjaa", sum := "3de036e41c90bb9351258a4565d4803fcc4b7a7610884c68eedb3625552d7988", func := "claviger/clavigerlaw2.BlendTells", spec := "blendTells", apart := false, narrowed := true }
def BlendTellsUptoSaid : Prop := blendTellsUptoRow.holds Try.pinned (OpenSpec.upto blendTellsSpec)

/-- 'clavigerlaw2.BlendStreams', WHERE WHAT IT READS IS OF BULK AT MOST 1048576: true; the input reads as it did. -/
def blendStreamsUptoRow : OpenClaim := { program := "ytkneeocicbadjaa", sum := "3de036e41c90bb9351258a4565d4803fcc4b7a7610884c68eedb3625552d7988", func := "claviger/clavigerlaw2.BlendStreams", spec := "blendStreams", apart := false, narrowed := true }
def BlendStreamsUptoSaid : Prop := blendStreamsUptoRow.holds Try.pinned (OpenSpec.upto blendStreamsSpec)

/-- 'clavigerlaw2.BlendParts', WHERE WHAT IT READS IS OF BULK AT MOST 1048576: true; the input reads as it did. -/
def blendPartsUptoRow : OpenClaim := { program := "ytkneeocicbadjaa", sum := "3de036e41c90bb9351258a4565d4803fcc4b7a7610884c68eedb3625552d7988", func := "claviger/clavigerlaw2.BlendParts", spec := "blendParts", apart := false, narrowed := true }
def BlendPartsUptoSaid : Prop := blendPartsUptoRow.holds Try.pinned (OpenSpec.upto blendPartsSpec)

/-- 'clavigerlaw2.BlendNumber', WHERE WHAT IT READS IS OF BULK AT MOST 1048576: true; the input reads as it did. -/
def blendNumberUptoRow : OpenClaim := { program := "ytkneeocicbadjaa", sum := "3de036e41c90bb9351258a4565d4803fcc4b7a7610884c68eedb3625552d7988", func := "claviger/clavigerlaw2.BlendNumber", spec := "blendNumber", apart := false, narrowed := true }
def BlendNumberUptoSaid : Prop := blendNumberUptoRow.holds Try.pinned (OpenSpec.upto blendNumberSpec)

/-- 'clavigerlaw3.StretchNumbers', WHERE WHAT IT READS IS OF BULK AT MOST 1048576: true; the input reads as it did. -/
def stretchNumbersUptoRow : OpenClaim := { program := "ytkneeocicbadjaa", sum := "3de036e41c90bb9351258a4565d4803fcc4b7a7610884c68eedb3625552d7988", func := "claviger/clavigerlaw3.StretchNumbers", spec := "stretchNumbers", apart := false, narrowed := true }
def StretchNumbersUptoSaid : Prop := stretchNumbersUptoRow.holds Try.pinned (OpenSpec.upto stretchNumbersSpec)

/-- 'clavigerlaw3.StretchTells', WHERE WHAT IT READS IS OF BULK AT MOST 1048576: true; the input reads as it did. -/
def stretchTellsUptoRow : OpenClaim := { program := "ytkneeocicbadjaa", sum := "3de036e41c90bb9351258a4565d4803fcc4b7a7610884c68eedb3625552d7988", func := "claviger/clavigerlaw3.StretchTells", spec := "stretchTells", apart := false, narrowed := true }
def StretchTellsUptoSaid : Prop := stretchTellsUptoRow.holds Try.pinned (OpenSpec.upto stretchTellsSpec)

/-- 'clavigerlaw3.StretchRounds', WHERE WHAT IT READS IS OF BULK AT MOST 1048576: true; the input reads as it did. -/
def stretchRoundsUptoRow : OpenClaim := { program := "ytkneeocicbadjaa", sum := "3de036e41c90bb9351258a4565d4803fcc4b7a7610884c68eedb3625552d7988", func := "claviger/clavigerlaw3.StretchRounds", spec := "stretchRounds", apart := false, narrowed := true }
def StretchRoundsUptoSaid : Prop := stretchRoundsUptoRow.holds Try.pinned (OpenSpec.upto stretchRoundsSpec)

/-- 'clavigerlaw3.StretchScripts', WHERE WHAT IT READS IS OF BULK AT MOST 1048576: true; the input reads as it did. -/
def stretchScriptsUptoRow : OpenClaim := { program := "ytkneeocicbadjaa", sum := "3de036e41c90bb9351258a4565d4803fcc4b7a7610884c68eedb3625552d7988", func := "claviger/clavigerlaw3.StretchScripts", spec := "stretchScripts", apart := false, narrowed := true }
def StretchScriptsUptoSaid : Prop := stretchScriptsUptoRow.holds Try.pinned (OpenSpec.upto stretchScriptsSpec)

/-- 'clavigerlaw4.VeilNumbers', WHERE WHAT IT READS IS OF BULK AT MOST 1048576: true; the input reads as it did. -/
def veilNumbersUptoRow : OpenClaim := { program := "ytkneeocicbadjaa", sum := "3de036e41c90bb9351258a4565d4803fcc4b7a7610884c68eedb3625552d7988", func := "claviger/clavigerlaw4.VeilNumbers", spec := "veilNumbers", apart := false, narrowed := true }
def VeilNumbersUptoSaid : Prop := veilNumbersUptoRow.holds Try.pinned (OpenSpec.upto veilNumbersSpec)

/-- 'clavigerlaw4.VeilTells', WHERE WHAT IT READS IS OF BULK AT MOST 1048576: true; the input reads as it did. -/
def veilTellsUptoRow : OpenClaim := { program := "ytkneeocicbadjaa", sum := "3de036e41c90bb9351258a4565d4803fcc4b7a7610884c68eedb3625552d7988", func := "claviger/clavigerlaw4.VeilTells", spec := "veilTells", apart := false, narrowed := true }
def VeilTellsUptoSaid : Prop := veilTellsUptoRow.holds Try.pinned (OpenSpec.upto veilTellsSpec)

/-- 'clavigerlaw4.VeilBack', WHERE WHAT IT READS IS OF BULK AT MOST 1048576: true; the input reads as it did. -/
def veilBackUptoRow : OpenClaim := { program := "ytkneeocicbadjaa", sum := "3de036e41c90bb9351258a4565d4803fcc4b7a7610884c68eedb3625552d7988", func := "claviger/clavigerlaw4.VeilBack", spec := "veilBack", apart := false, narrowed := true }
def VeilBackUptoSaid : Prop := veilBackUptoRow.holds Try.pinned (OpenSpec.upto veilBackSpec)

/-- 'clavigerlaw4.VeilTurns', WHERE WHAT IT READS IS OF BULK AT MOST 1048576: true; the input reads as it did. -/
def veilTurnsUptoRow : OpenClaim := { program := "ytkneeocicbadjaa", sum := "3de036e41c90bb9351258a4565d4803fcc4b7a7610884c68eedb3625552d7988", func := "claviger/clavigerlaw4.VeilTurns", spec := "veilTurns", apart := false, narrowed := true }
def VeilTurnsUptoSaid : Prop := veilTurnsUptoRow.holds Try.pinned (OpenSpec.upto veilTurnsSpec)

/-- 'clavigerlaw5.EnvelopeNumbers', WHERE WHAT IT READS IS OF BULK AT MOST 1048576: true; the input reads as it did. -/
def envelopeNumbersUptoRow : OpenClaim := { program := "ytkneeocicbadjaa", sum := "3de036e41c90bb9351258a4565d4803fcc4b7a7610884c68eedb3625552d7988", func := "claviger/clavigerlaw5.EnvelopeNumbers", spec := "envelopeNumbers", apart := false, narrowed := true }
def EnvelopeNumbersUptoSaid : Prop := envelopeNumbersUptoRow.holds Try.pinned (OpenSpec.upto envelopeNumbersSpec)

/-- 'clavigerlaw5.EnvelopeTells', WHERE WHAT IT READS IS OF BULK AT MOST 1048576: true; the input reads as it did. -/
def envelopeTellsUptoRow : OpenClaim := { program := "ytkneeocicbadjaa", sum := "3de036e41c90bb9351258a4565d4803fcc4b7a7610884c68eedb3625552d7988", func := "claviger/clavigerlaw5.EnvelopeTells", spec := "envelopeTells", apart := false, narrowed := true }
def EnvelopeTellsUptoSaid : Prop := envelopeTellsUptoRow.holds Try.pinned (OpenSpec.upto envelopeTellsSpec)

/-- 'clavigerlaw5.EnvelopeBack', WHERE WHAT IT READS IS OF BULK AT MOST 1048576: true; the input reads as it did. -/
def envelopeBackUptoRow : OpenClaim := { program := "ytkneeocicbadjaa", sum := "3de036e41c90bb9351258a4565d4803fcc4b7a7610884c68eedb3625552d7988", func := "claviger/clavigerlaw5.EnvelopeBack", spec := "envelopeBack", apart := false, narrowed := true }
def EnvelopeBackUptoSaid : Prop := envelopeBackUptoRow.holds Try.pinned (OpenSpec.upto envelopeBackSpec)

/-- 'clavigerlaw5.EnvelopeSeeds', WHERE WHAT IT READS IS OF BULK AT MOST 1048576: true; the input reads as it did. -/
def envelopeSeedsUptoRow : OpenClaim := { program := "ytkneeocicbadjaa", sum := "3de036e41c90bb9351258a4565d4803fcc4b7a7610884c68eedb3625552d7988", func := "claviger/clavigerlaw5.EnvelopeSeeds", spec := "envelopeSeeds", apart := false, narrowed := true }
def EnvelopeSeedsUptoSaid : Prop := envelopeSeedsUptoRow.holds Try.pinned (OpenSpec.upto envelopeSeedsSpec)

end Rows
end Go.Proofs.Ytkneeocicbadjaa
