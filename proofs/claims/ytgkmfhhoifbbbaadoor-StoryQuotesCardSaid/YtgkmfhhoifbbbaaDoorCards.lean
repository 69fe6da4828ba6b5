/-
  DERIVED. GIVEN WITH THE SEED: THE CARDS: each row of YtgkmfhhoifbbbaaDoorRows.lean that lists a variable, with what it lists TIED to the program's text (the seventh form; the later family's looks); each row that meets fmt, with fmt's text TOLD by the authors' own Lean function (tested against real Go, not proved from fmt's source: count such statements apart). THE CARD IS WHAT COUNTS. Prove the row's statement (the work); the ties are given (YtgkmfhhoifbbbaaDoorTie.lean); close each card by the builder's one call (the guide's Derived/Test/ToyasCard.lean, 'card_holds'). Laid BY PROGRAM, IN A SANDBOX (cutbox-door.mjs). By AI agents, Wed Nov 11 2026. No macro, syntax, notation, axiom, sorry.
-/
import Derived.Test.YtgkmfhhoifbbbaaDoorRows
import GoSem.ClaimSeven
namespace Go.Proofs.YtgkmfhhoifbbbaaDoor
namespace Rows

/-- THE TIED CARD OF 'clavigerlaw28.StoryNumbers'. -/
def storyNumbersCard : Claim7 := { stood := { row := storyNumbersRow, standIns := [], harness := (true, "68a0a651363ced07e7252accdcebb5e92db0b04d4ae9b757df1f3a4a8287940d"), looks := false }, kinds := [], alts := [], laidByText := true, laidKinds := [.data, .data, .data], laidTests := true, laidLooks := .later }
def StoryNumbersCardSaid : Prop := Claim7.holds Tryd.pinned (.plain (OpenSpec.ofChange storyNumbersSpec)) storyNumbersCard

/-- THE TIED CARD OF 'clavigerlaw28.StoryReads'. -/
def storyReadsCard : Claim7 := { stood := { row := storyReadsRow, standIns := [], harness := (true, "68a0a651363ced07e7252accdcebb5e92db0b04d4ae9b757df1f3a4a8287940d"), looks := false }, kinds := [], alts := [], laidByText := true, laidKinds := [.data, .data, .data], laidTests := true, laidLooks := .later }
def StoryReadsCardSaid : Prop := Claim7.holds Tryd.pinned (.plain (OpenSpec.ofChange storyReadsSpec)) storyReadsCard

/-- THE TIED CARD OF 'clavigerlaw28.StoryQuotes'. -/
def storyQuotesCard : Claim7 := { stood := { row := storyQuotesRow, standIns := [], harness := (true, "68a0a651363ced07e7252accdcebb5e92db0b04d4ae9b757df1f3a4a8287940d"), looks := false }, kinds := [], alts := [], laidByText := true, laidKinds := [.data, .data, .data], laidTests := true, laidLooks := .later }
def StoryQuotesCardSaid : Prop := Claim7.holds Tryd.pinned (.plain (OpenSpec.ofChange storyQuotesSpec)) storyQuotesCard

/-- THE SECOND FORM's CARD OF 'clavigerlaw28.StoryNumbers'. -/
def storyNumbersUptoCard : Claim7 := { stood := { row := storyNumbersUptoRow, standIns := [], harness := (true, "68a0a651363ced07e7252accdcebb5e92db0b04d4ae9b757df1f3a4a8287940d"), looks := false }, kinds := [], alts := [], laidByText := true, laidKinds := [.data, .data, .data], laidTests := true, laidLooks := .later }
def StoryNumbersUptoCardSaid : Prop := Claim7.holds Tryd.pinned (.plain (OpenSpec.upto storyNumbersSpec)) storyNumbersUptoCard

/-- THE SECOND FORM's CARD OF 'clavigerlaw28.StoryReads'. -/
def storyReadsUptoCard : Claim7 := { stood := { row := storyReadsUptoRow, standIns := [], harness := (true, "68a0a651363ced07e7252accdcebb5e92db0b04d4ae9b757df1f3a4a8287940d"), looks := false }, kinds := [], alts := [], laidByText := true, laidKinds := [.data, .data, .data], laidTests := true, laidLooks := .later }
def StoryReadsUptoCardSaid : Prop := Claim7.holds Tryd.pinned (.plain (OpenSpec.upto storyReadsSpec)) storyReadsUptoCard

/-- THE SECOND FORM's CARD OF 'clavigerlaw28.StoryQuotes'. -/
def storyQuotesUptoCard : Claim7 := { stood := { row := storyQuotesUptoRow, standIns := [], harness := (true, "68a0a651363ced07e7252accdcebb5e92db0b04d4ae9b757df1f3a4a8287940d"), looks := false }, kinds := [], alts := [], laidByText := true, laidKinds := [.data, .data, .data], laidTests := true, laidLooks := .later }
def StoryQuotesUptoCardSaid : Prop := Claim7.holds Tryd.pinned (.plain (OpenSpec.upto storyQuotesSpec)) storyQuotesUptoCard
end Rows
end Go.Proofs.YtgkmfhhoifbbbaaDoor
