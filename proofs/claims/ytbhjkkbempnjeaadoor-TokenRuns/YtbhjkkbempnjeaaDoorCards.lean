/-
  DERIVED. GIVEN WITH THE SEED: THE CARDS: each row of YtbhjkkbempnjeaaDoorRows.lean that lists a variable, with what it lists TIED to the program's text (the seventh form; the later family's looks); each row that meets fmt, with fmt's text TOLD by the authors' own Lean function (tested against real Go, not proved from fmt's source: count such statements apart). THE CARD IS WHAT COUNTS. Prove the row's statement (the work); the ties are given (YtbhjkkbempnjeaaDoorTie.lean); close each card by the builder's one call (the guide's Derived/Test/ToyasCard.lean, 'card_holds'). Laid BY PROGRAM, IN A SANDBOX (cutbox-door.mjs). By AI agents, Wed Nov 11 2026. No macro, syntax, notation, axiom, sorry.
-/
import Derived.Test.YtbhjkkbempnjeaaDoorRows
import GoSem.ClaimSeven
namespace Go.Proofs.YtbhjkkbempnjeaaDoor
namespace Rows

/-- THE TIED CARD OF 'redpenlaw16.TokenRuns'. -/
def tokenRunsCard : Claim7 := { stood := { row := tokenRunsRow, standIns := [], harness := (true, "f33bdb8ae9ea874836c4b13c02a8b34253c689e03c44fc56bbfc0991bc27c015"), looks := true }, kinds := [], alts := [], laidByText := true, laidKinds := [.data, .pinned], laidTests := true, laidLooks := .later }
def TokenRunsCardSaid : Prop := Claim7.holds Tryd.pinned (.plain (OpenSpec.ofChange tokenRunsSpec)) tokenRunsCard

/-- THE TIED CARD OF 'redpenlaw16.TokenWords'. -/
def tokenWordsCard : Claim7 := { stood := { row := tokenWordsRow, standIns := [], harness := (true, "f33bdb8ae9ea874836c4b13c02a8b34253c689e03c44fc56bbfc0991bc27c015"), looks := true }, kinds := [], alts := [], laidByText := true, laidKinds := [.data, .data, .data, .data, .sentinel, .sentinel, .data, .pinned], laidTests := true, laidLooks := .later }
def TokenWordsCardSaid : Prop := Claim7.holds Tryd.pinned (.plain (OpenSpec.ofChange tokenWordsSpec)) tokenWordsCard

/-- THE TIED CARD OF 'redpenlaw16.TokenWhole'. -/
def tokenWholeCard : Claim7 := { stood := { row := tokenWholeRow, standIns := [], harness := (true, "f33bdb8ae9ea874836c4b13c02a8b34253c689e03c44fc56bbfc0991bc27c015"), looks := true }, kinds := [], alts := [], laidByText := true, laidKinds := [.data, .pinned], laidTests := true, laidLooks := .later }
def TokenWholeCardSaid : Prop := Claim7.holds Tryd.pinned (.plain (OpenSpec.ofChange tokenWholeSpec)) tokenWholeCard

/-- THE TIED CARD OF 'redpenlaw16.TokenCases'. -/
def tokenCasesCard : Claim7 := { stood := { row := tokenCasesRow, standIns := [], harness := (true, "f33bdb8ae9ea874836c4b13c02a8b34253c689e03c44fc56bbfc0991bc27c015"), looks := true }, kinds := [], alts := [], laidByText := true, laidKinds := [.data, .pinned], laidTests := true, laidLooks := .later }
def TokenCasesCardSaid : Prop := Claim7.holds Tryd.pinned (.plain (OpenSpec.ofChange tokenCasesSpec)) tokenCasesCard

/-- THE TIED CARD OF 'redpenlaw16.TokenLengths'. -/
def tokenLengthsCard : Claim7 := { stood := { row := tokenLengthsRow, standIns := [], harness := (true, "f33bdb8ae9ea874836c4b13c02a8b34253c689e03c44fc56bbfc0991bc27c015"), looks := true }, kinds := [], alts := [], laidByText := true, laidKinds := [.data, .pinned], laidTests := true, laidLooks := .later }
def TokenLengthsCardSaid : Prop := Claim7.holds Tryd.pinned (.plain (OpenSpec.ofChange tokenLengthsSpec)) tokenLengthsCard

/-- THE SECOND FORM's CARD OF 'redpenlaw16.TokenRuns'. -/
def tokenRunsUptoCard : Claim7 := { stood := { row := tokenRunsUptoRow, standIns := [], harness := (true, "f33bdb8ae9ea874836c4b13c02a8b34253c689e03c44fc56bbfc0991bc27c015"), looks := true }, kinds := [], alts := [], laidByText := true, laidKinds := [.data, .pinned], laidTests := true, laidLooks := .later }
def TokenRunsUptoCardSaid : Prop := Claim7.holds Tryd.pinned (.plain (OpenSpec.upto tokenRunsSpec)) tokenRunsUptoCard

/-- THE SECOND FORM's CARD OF 'redpenlaw16.TokenWords'. -/
def tokenWordsUptoCard : Claim7 := { stood := { row := tokenWordsUptoRow, standIns := [], harness := (true, "f33bdb8ae9ea874836c4b13c02a8b34253c689e03c44fc56bbfc0991bc27c015"), looks := true }, kinds := [], alts := [], laidByText := true, laidKinds := [.data, .data, .data, .data, .sentinel, .sentinel, .data, .pinned], laidTests := true, laidLooks := .later }
def TokenWordsUptoCardSaid : Prop := Claim7.holds Tryd.pinned (.plain (OpenSpec.upto tokenWordsSpec)) tokenWordsUptoCard

/-- THE SECOND FORM's CARD OF 'redpenlaw16.TokenWhole'. -/
def tokenWholeUptoCard : Claim7 := { stood := { row := tokenWholeUptoRow, standIns := [], harness := (true, "f33bdb8ae9ea874836c4b13c02a8b34253c689e03c44fc56bbfc0991bc27c015"), looks := true }, kinds := [], alts := [], laidByText := true, laidKinds := [.data, .pinned], laidTests := true, laidLooks := .later }
def TokenWholeUptoCardSaid : Prop := Claim7.holds Tryd.pinned (.plain (OpenSpec.upto tokenWholeSpec)) tokenWholeUptoCard

/-- THE SECOND FORM's CARD OF 'redpenlaw16.TokenCases'. -/
def tokenCasesUptoCard : Claim7 := { stood := { row := tokenCasesUptoRow, standIns := [], harness := (true, "f33bdb8ae9ea874836c4b13c02a8b34253c689e03c44fc56bbfc0991bc27c015"), looks := true }, kinds := [], alts := [], laidByText := true, laidKinds := [.data, .pinned], laidTests := true, laidLooks := .later }
def TokenCasesUptoCardSaid : Prop := Claim7.holds Tryd.pinned (.plain (OpenSpec.upto tokenCasesSpec)) tokenCasesUptoCard

/-- THE SECOND FORM's CARD OF 'redpenlaw16.TokenLengths'. -/
def tokenLengthsUptoCard : Claim7 := { stood := { row := tokenLengthsUptoRow, standIns := [], harness := (true, "f33bdb8ae9ea874836c4b13c02a8b34253c689e03c44fc56bbfc0991bc27c015"), looks := true }, kinds := [], alts := [], laidByText := true, laidKinds := [.data, .pinned], laidTests := true, laidLooks := .later }
def TokenLengthsUptoCardSaid : Prop := Claim7.holds Tryd.pinned (.plain (OpenSpec.upto tokenLengthsSpec)) tokenLengthsUptoCard
end Rows
end Go.Proofs.YtbhjkkbempnjeaaDoor
