/-
  DERIVED. GIVEN WITH THE SEED: THE CARDS: each row of YtihplafalbokdaaDoorRows.lean that lists a variable, with what it lists TIED to the program's text (the seventh form; the later family's looks); each row that meets fmt, with fmt's text TOLD by the authors' own Lean function (tested against real Go, not proved from fmt's source: count such statements apart). THE CARD IS WHAT COUNTS. Prove the row's statement (the work); the ties are given (YtihplafalbokdaaDoorTie.lean); close each card by the builder's one call (the guide's Derived/Test/ToyasCard.lean, 'card_holds'). Laid BY PROGRAM, IN A SANDBOX (cutbox-door.mjs). By AI agents, Wed Nov 11 2026. No macro, syntax, notation, axiom, sorry.
-/
import Derived.Test.YtihplafalbokdaaDoorRows
import GoSem.ClaimSeven
namespace Go.Proofs.YtihplafalbokdaaDoor
namespace Rows

/-- THE TIED CARD OF 'redpenlaw03.LinesSplit'. -/
def linesSplitCard : Claim7 := { stood := { row := linesSplitRow, standIns := [], harness := (true, "55c2d2aa98a5c662dee54e42318e6e7629bc3fb5cbd02d64f52962ccf629f271"), looks := false }, kinds := [], alts := [], laidByText := true, laidKinds := [.data, .pinned], laidTests := true, laidLooks := .later }
def LinesSplitCardSaid : Prop := Claim7.holds Tryd.pinned (.plain (OpenSpec.ofChange linesSplitSpec)) linesSplitCard

/-- THE TIED CARD OF 'redpenlaw03.LinesPlaces'. -/
def linesPlacesCard : Claim7 := { stood := { row := linesPlacesRow, standIns := [], harness := (true, "55c2d2aa98a5c662dee54e42318e6e7629bc3fb5cbd02d64f52962ccf629f271"), looks := false }, kinds := [], alts := [], laidByText := true, laidKinds := [.data, .pinned], laidTests := true, laidLooks := .later }
def LinesPlacesCardSaid : Prop := Claim7.holds Tryd.pinned (.plain (OpenSpec.ofChange linesPlacesSpec)) linesPlacesCard

/-- THE TIED CARD OF 'redpenlaw03.LinesCover'. -/
def linesCoverCard : Claim7 := { stood := { row := linesCoverRow, standIns := [], harness := (true, "55c2d2aa98a5c662dee54e42318e6e7629bc3fb5cbd02d64f52962ccf629f271"), looks := false }, kinds := [], alts := [], laidByText := true, laidKinds := [.data, .pinned], laidTests := true, laidLooks := .later }
def LinesCoverCardSaid : Prop := Claim7.holds Tryd.pinned (.plain (OpenSpec.ofChange linesCoverSpec)) linesCoverCard

/-- THE TIED CARD OF 'redpenlaw03.LinesOwn'. -/
def linesOwnCard : Claim7 := { stood := { row := linesOwnRow, standIns := [], harness := (true, "55c2d2aa98a5c662dee54e42318e6e7629bc3fb5cbd02d64f52962ccf629f271"), looks := false }, kinds := [], alts := [], laidByText := true, laidKinds := [.data, .pinned], laidTests := true, laidLooks := .later }
def LinesOwnCardSaid : Prop := Claim7.holds Tryd.pinned (.plain (OpenSpec.ofChange linesOwnSpec)) linesOwnCard

/-- THE TIED CARD OF 'redpenlaw03.LinesJoins'. -/
def linesJoinsCard : Claim7 := { stood := { row := linesJoinsRow, standIns := [], harness := (true, "55c2d2aa98a5c662dee54e42318e6e7629bc3fb5cbd02d64f52962ccf629f271"), looks := false }, kinds := [], alts := [], laidByText := true, laidKinds := [.data, .pinned], laidTests := true, laidLooks := .later }
def LinesJoinsCardSaid : Prop := Claim7.holds Tryd.pinned (.plain (OpenSpec.ofChange linesJoinsSpec)) linesJoinsCard

/-- THE SECOND FORM's CARD OF 'redpenlaw03.LinesSplit'. -/
def linesSplitUptoCard : Claim7 := { stood := { row := linesSplitUptoRow, standIns := [], harness := (true, "55c2d2aa98a5c662dee54e42318e6e7629bc3fb5cbd02d64f52962ccf629f271"), looks := false }, kinds := [], alts := [], laidByText := true, laidKinds := [.data, .pinned], laidTests := true, laidLooks := .later }
def LinesSplitUptoCardSaid : Prop := Claim7.holds Tryd.pinned (.plain (OpenSpec.upto linesSplitSpec)) linesSplitUptoCard

/-- THE SECOND FORM's CARD OF 'redpenlaw03.LinesPlaces'. -/
def linesPlacesUptoCard : Claim7 := { stood := { row := linesPlacesUptoRow, standIns := [], harness := (true, "55c2d2aa98a5c662dee54e42318e6e7629bc3fb5cbd02d64f52962ccf629f271"), looks := false }, kinds := [], alts := [], laidByText := true, laidKinds := [.data, .pinned], laidTests := true, laidLooks := .later }
def LinesPlacesUptoCardSaid : Prop := Claim7.holds Tryd.pinned (.plain (OpenSpec.upto linesPlacesSpec)) linesPlacesUptoCard

/-- THE SECOND FORM's CARD OF 'redpenlaw03.LinesCover'. -/
def linesCoverUptoCard : Claim7 := { stood := { row := linesCoverUptoRow, standIns := [], harness := (true, "55c2d2aa98a5c662dee54e42318e6e7629bc3fb5cbd02d64f52962ccf629f271"), looks := false }, kinds := [], alts := [], laidByText := true, laidKinds := [.data, .pinned], laidTests := true, laidLooks := .later }
def LinesCoverUptoCardSaid : Prop := Claim7.holds Tryd.pinned (.plain (OpenSpec.upto linesCoverSpec)) linesCoverUptoCard

/-- THE SECOND FORM's CARD OF 'redpenlaw03.LinesOwn'. -/
def linesOwnUptoCard : Claim7 := { stood := { row := linesOwnUptoRow, standIns := [], harness := (true, "55c2d2aa98a5c662dee54e42318e6e7629bc3fb5cbd02d64f52962ccf629f271"), looks := false }, kinds := [], alts := [], laidByText := true, laidKinds := [.data, .pinned], laidTests := true, laidLooks := .later }
def LinesOwnUptoCardSaid : Prop := Claim7.holds Tryd.pinned (.plain (OpenSpec.upto linesOwnSpec)) linesOwnUptoCard

/-- THE SECOND FORM's CARD OF 'redpenlaw03.LinesJoins'. -/
def linesJoinsUptoCard : Claim7 := { stood := { row := linesJoinsUptoRow, standIns := [], harness := (true, "55c2d2aa98a5c662dee54e42318e6e7629bc3fb5cbd02d64f52962ccf629f271"), looks := false }, kinds := [], alts := [], laidByText := true, laidKinds := [.data, .pinned], laidTests := true, laidLooks := .later }
def LinesJoinsUptoCardSaid : Prop := Claim7.holds Tryd.pinned (.plain (OpenSpec.upto linesJoinsSpec)) linesJoinsUptoCard
end Rows
end Go.Proofs.YtihplafalbokdaaDoor
