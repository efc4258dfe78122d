/-
  DERIVED. GIVEN WITH THE SEED: THE CARDS: each row of YtodjfeheagnnpaaGreatDoorRows.lean that lists a variable, with what it lists TIED to the program's text (the seventh form; the later family's looks); each row that meets fmt, with fmt's text TOLD by the authors' own Lean function (tested against real Go, not proved from fmt's source: count such statements apart). THE CARD IS WHAT COUNTS. Prove the row's statement (the work); the ties are given (YtodjfeheagnnpaaGreatDoorTie.lean); close each card by the builder's one call (the guide's Derived/Test/ToyasCard.lean, 'card_holds'). Laid BY PROGRAM, IN A SANDBOX (cutbox-door.mjs). By AI agents, Wed Nov 11 2026. No macro, syntax, notation, axiom, sorry.
-/
import Derived.Test.YtodjfeheagnnpaaGreatDoorRows
import GoSem.ClaimSeven
namespace Go.Proofs.YtodjfeheagnnpaaGreatDoor
namespace Rows

/-- THE TIED CARD OF 'redpenlaw12.MarkLex'. -/
def markLexCard : Claim7 := { stood := { row := markLexRow, standIns := [], harness := (true, "b3133db18b3aab55fdc5c11a664cc31d25b5ada7a46a83e1fa533df7d8525267"), looks := false }, kinds := [], alts := [], laidByText := true, laidKinds := [.data, .pinned], laidTests := true, laidLooks := .later }
def MarkLexCardSaid : Prop := Claim7.holds Tryz.pinned (.plain (OpenSpec.ofChange markLexSpec)) markLexCard

/-- THE TIED CARD OF 'redpenlaw12.MarkLinks'. -/
def markLinksCard : Claim7 := { stood := { row := markLinksRow, standIns := [], harness := (true, "b3133db18b3aab55fdc5c11a664cc31d25b5ada7a46a83e1fa533df7d8525267"), looks := false }, kinds := [], alts := [], laidByText := true, laidKinds := [.data, .pinned], laidTests := true, laidLooks := .later }
def MarkLinksCardSaid : Prop := Claim7.holds Tryz.pinned (.plain (OpenSpec.ofChange markLinksSpec)) markLinksCard

/-- THE SECOND FORM's CARD OF 'redpenlaw12.MarkLex'. -/
def markLexUptoCard : Claim7 := { stood := { row := markLexUptoRow, standIns := [], harness := (true, "b3133db18b3aab55fdc5c11a664cc31d25b5ada7a46a83e1fa533df7d8525267"), looks := false }, kinds := [], alts := [], laidByText := true, laidKinds := [.data, .pinned], laidTests := true, laidLooks := .later }
def MarkLexUptoCardSaid : Prop := Claim7.holds Tryz.pinned (.plain (OpenSpec.upto markLexSpec)) markLexUptoCard

/-- THE SECOND FORM's CARD OF 'redpenlaw12.MarkLinks'. -/
def markLinksUptoCard : Claim7 := { stood := { row := markLinksUptoRow, standIns := [], harness := (true, "b3133db18b3aab55fdc5c11a664cc31d25b5ada7a46a83e1fa533df7d8525267"), looks := false }, kinds := [], alts := [], laidByText := true, laidKinds := [.data, .pinned], laidTests := true, laidLooks := .later }
def MarkLinksUptoCardSaid : Prop := Claim7.holds Tryz.pinned (.plain (OpenSpec.upto markLinksSpec)) markLinksUptoCard
end Rows
end Go.Proofs.YtodjfeheagnnpaaGreatDoor
