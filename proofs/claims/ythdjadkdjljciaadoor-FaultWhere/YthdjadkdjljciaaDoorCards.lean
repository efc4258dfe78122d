/-
  DERIVED. GIVEN WITH THE SEED: THE CARDS: each row of YthdjadkdjljciaaDoorRows.lean that lists a variable, with what it lists TIED to the program's text (the seventh form; the later family's looks); each row that meets fmt, with fmt's text TOLD by the authors' own Lean function (tested against real Go, not proved from fmt's source: count such statements apart). THE CARD IS WHAT COUNTS. Prove the row's statement (the work); the ties are given (YthdjadkdjljciaaDoorTie.lean); close each card by the builder's one call (the guide's Derived/Test/ToyasCard.lean, 'card_holds'). Laid BY PROGRAM, IN A SANDBOX (cutbox-door.mjs). By AI agents, Wed Nov 11 2026. No macro, syntax, notation, axiom, sorry.
-/
import Derived.Test.YthdjadkdjljciaaDoorRows
import GoSem.ClaimSeven
namespace Go.Proofs.YthdjadkdjljciaaDoor
namespace Rows

/-- THE TIED CARD OF 'redpenlaw05.FaultCodes'. -/
def faultCodesCard : Claim7 := { stood := { row := faultCodesRow, standIns := [], harness := (true, "ab11461064743075c6212ea8f6f33e4174c51a2d8a9ef58cbba4a56d379c790f"), looks := true }, kinds := [], alts := [], laidByText := true, laidKinds := [.handle], laidTests := true, laidLooks := .later }
def FaultCodesCardSaid : Prop := Claim7.holds Tryd.pinned (.plain (OpenSpec.ofChange faultCodesSpec)) faultCodesCard

/-- THE TIED CARD OF 'redpenlaw05.FaultWhere'. -/
def faultWhereCard : Claim7 := { stood := { row := faultWhereRow, standIns := [], harness := (true, "ab11461064743075c6212ea8f6f33e4174c51a2d8a9ef58cbba4a56d379c790f"), looks := true }, kinds := [], alts := [], laidByText := true, laidKinds := [.handle], laidTests := true, laidLooks := .later }
def FaultWhereCardSaid : Prop := Claim7.holds Tryd.pinned (.plain (OpenSpec.ofChange faultWhereSpec)) faultWhereCard

/-- THE TIED CARD OF 'redpenlaw05.FaultPeels'. -/
def faultPeelsCard : Claim7 := { stood := { row := faultPeelsRow, standIns := [], harness := (true, "ab11461064743075c6212ea8f6f33e4174c51a2d8a9ef58cbba4a56d379c790f"), looks := true }, kinds := [], alts := [], laidByText := true, laidKinds := [.handle], laidTests := true, laidLooks := .later }
def FaultPeelsCardSaid : Prop := Claim7.holds Tryd.pinned (.plain (OpenSpec.ofChange faultPeelsSpec)) faultPeelsCard

/-- THE TIED CARD OF 'redpenlaw05.FaultMakes'. -/
def faultMakesCard : Claim7 := { stood := { row := faultMakesRow, standIns := [], harness := (true, "ab11461064743075c6212ea8f6f33e4174c51a2d8a9ef58cbba4a56d379c790f"), looks := true }, kinds := [], alts := [], laidByText := true, laidKinds := [.data, .data, .data, .handle], laidTests := true, laidLooks := .later }
def FaultMakesCardSaid : Prop := Claim7.holds Tryd.pinned (.plain (OpenSpec.ofChange faultMakesSpec)) faultMakesCard

/-- THE SECOND FORM's CARD OF 'redpenlaw05.FaultCodes'. -/
def faultCodesUptoCard : Claim7 := { stood := { row := faultCodesUptoRow, standIns := [], harness := (true, "ab11461064743075c6212ea8f6f33e4174c51a2d8a9ef58cbba4a56d379c790f"), looks := true }, kinds := [], alts := [], laidByText := true, laidKinds := [.handle], laidTests := true, laidLooks := .later }
def FaultCodesUptoCardSaid : Prop := Claim7.holds Tryd.pinned (.plain (OpenSpec.upto faultCodesSpec)) faultCodesUptoCard

/-- THE SECOND FORM's CARD OF 'redpenlaw05.FaultWhere'. -/
def faultWhereUptoCard : Claim7 := { stood := { row := faultWhereUptoRow, standIns := [], harness := (true, "ab11461064743075c6212ea8f6f33e4174c51a2d8a9ef58cbba4a56d379c790f"), looks := true }, kinds := [], alts := [], laidByText := true, laidKinds := [.handle], laidTests := true, laidLooks := .later }
def FaultWhereUptoCardSaid : Prop := Claim7.holds Tryd.pinned (.plain (OpenSpec.upto faultWhereSpec)) faultWhereUptoCard

/-- THE SECOND FORM's CARD OF 'redpenlaw05.FaultPeels'. -/
def faultPeelsUptoCard : Claim7 := { stood := { row := faultPeelsUptoRow, standIns := [], harness := (true, "ab11461064743075c6212ea8f6f33e4174c51a2d8a9ef58cbba4a56d379c790f"), looks := true }, kinds := [], alts := [], laidByText := true, laidKinds := [.handle], laidTests := true, laidLooks := .later }
def FaultPeelsUptoCardSaid : Prop := Claim7.holds Tryd.pinned (.plain (OpenSpec.upto faultPeelsSpec)) faultPeelsUptoCard

/-- THE SECOND FORM's CARD OF 'redpenlaw05.FaultMakes'. -/
def faultMakesUptoCard : Claim7 := { stood := { row := faultMakesUptoRow, standIns := [], harness := (true, "ab11461064743075c6212ea8f6f33e4174c51a2d8a9ef58cbba4a56d379c790f"), looks := true }, kinds := [], alts := [], laidByText := true, laidKinds := [.data, .data, .data, .handle], laidTests := true, laidLooks := .later }
def FaultMakesUptoCardSaid : Prop := Claim7.holds Tryd.pinned (.plain (OpenSpec.upto faultMakesSpec)) faultMakesUptoCard
end Rows
end Go.Proofs.YthdjadkdjljciaaDoor
