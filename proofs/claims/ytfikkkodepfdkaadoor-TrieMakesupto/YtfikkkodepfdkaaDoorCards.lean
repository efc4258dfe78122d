/-
  DERIVED. GIVEN WITH THE SEED: THE CARDS: each row of YtfikkkodepfdkaaDoorRows.lean that lists a variable, with what it lists TIED to the program's text (the seventh form; the later family's looks); each row that meets fmt, with fmt's text TOLD by the authors' own Lean function (tested against real Go, not proved from fmt's source: count such statements apart). THE CARD IS WHAT COUNTS. Prove the row's statement (the work); the ties are given (YtfikkkodepfdkaaDoorTie.lean); close each card by the builder's one call (the guide's Derived/Test/ToyasCard.lean, 'card_holds'). Laid BY PROGRAM, IN A SANDBOX (cutbox-door.mjs). By AI agents, Wed Nov 11 2026. No macro, syntax, notation, axiom, sorry.
-/
import Derived.Test.YtfikkkodepfdkaaDoorRows
import GoSem.ClaimSeven
namespace Go.Proofs.YtfikkkodepfdkaaDoor
namespace Rows

/-- THE TIED CARD OF 'redpenlaw07.TrieMakes'. -/
def trieMakesCard : Claim7 := { stood := { row := trieMakesRow, standIns := [], harness := (true, "7a537fabb124cf96bf5043ed1df115f73348ad4ef31a4ac3a9418007ad2a51cb"), looks := false }, kinds := [], alts := [], laidByText := true, laidKinds := [.data, .pinned], laidTests := true, laidLooks := .later }
def TrieMakesCardSaid : Prop := Claim7.holds Tryd.pinned (.plain (OpenSpec.ofChange trieMakesSpec)) trieMakesCard

/-- THE TIED CARD OF 'redpenlaw09.NearWords'. -/
def nearWordsCard : Claim7 := { stood := { row := nearWordsRow, standIns := [], harness := (true, "7a537fabb124cf96bf5043ed1df115f73348ad4ef31a4ac3a9418007ad2a51cb"), looks := false }, kinds := [], alts := [], laidByText := true, laidKinds := [.data, .pinned], laidTests := true, laidLooks := .later }
def NearWordsCardSaid : Prop := Claim7.holds Tryd.pinned (.plain (OpenSpec.ofChange nearWordsSpec)) nearWordsCard

/-- THE TIED CARD OF 'redpenlaw09.NearMade'. -/
def nearMadeCard : Claim7 := { stood := { row := nearMadeRow, standIns := [], harness := (true, "7a537fabb124cf96bf5043ed1df115f73348ad4ef31a4ac3a9418007ad2a51cb"), looks := false }, kinds := [], alts := [], laidByText := true, laidKinds := [.data, .pinned], laidTests := true, laidLooks := .later }
def NearMadeCardSaid : Prop := Claim7.holds Tryd.pinned (.plain (OpenSpec.ofChange nearMadeSpec)) nearMadeCard

/-- THE TIED CARD OF 'redpenlaw09.NearMore'. -/
def nearMoreCard : Claim7 := { stood := { row := nearMoreRow, standIns := [], harness := (true, "7a537fabb124cf96bf5043ed1df115f73348ad4ef31a4ac3a9418007ad2a51cb"), looks := false }, kinds := [], alts := [], laidByText := true, laidKinds := [.data, .pinned], laidTests := true, laidLooks := .later }
def NearMoreCardSaid : Prop := Claim7.holds Tryd.pinned (.plain (OpenSpec.ofChange nearMoreSpec)) nearMoreCard

/-- THE TIED CARD OF 'redpenlaw09.NearNone'. -/
def nearNoneCard : Claim7 := { stood := { row := nearNoneRow, standIns := [], harness := (true, "7a537fabb124cf96bf5043ed1df115f73348ad4ef31a4ac3a9418007ad2a51cb"), looks := false }, kinds := [], alts := [], laidByText := true, laidKinds := [.data, .pinned], laidTests := true, laidLooks := .later }
def NearNoneCardSaid : Prop := Claim7.holds Tryd.pinned (.plain (OpenSpec.ofChange nearNoneSpec)) nearNoneCard

/-- THE SECOND FORM's CARD OF 'redpenlaw07.TrieMakes'. -/
def trieMakesUptoCard : Claim7 := { stood := { row := trieMakesUptoRow, standIns := [], harness := (true, "7a537fabb124cf96bf5043ed1df115f73348ad4ef31a4ac3a9418007ad2a51cb"), looks := false }, kinds := [], alts := [], laidByText := true, laidKinds := [.data, .pinned], laidTests := true, laidLooks := .later }
def TrieMakesUptoCardSaid : Prop := Claim7.holds Tryd.pinned (.plain (OpenSpec.upto trieMakesSpec)) trieMakesUptoCard

/-- THE SECOND FORM's CARD OF 'redpenlaw09.NearWords'. -/
def nearWordsUptoCard : Claim7 := { stood := { row := nearWordsUptoRow, standIns := [], harness := (true, "7a537fabb124cf96bf5043ed1df115f73348ad4ef31a4ac3a9418007ad2a51cb"), looks := false }, kinds := [], alts := [], laidByText := true, laidKinds := [.data, .pinned], laidTests := true, laidLooks := .later }
def NearWordsUptoCardSaid : Prop := Claim7.holds Tryd.pinned (.plain (OpenSpec.upto nearWordsSpec)) nearWordsUptoCard

/-- THE SECOND FORM's CARD OF 'redpenlaw09.NearMade'. -/
def nearMadeUptoCard : Claim7 := { stood := { row := nearMadeUptoRow, standIns := [], harness := (true, "7a537fabb124cf96bf5043ed1df115f73348ad4ef31a4ac3a9418007ad2a51cb"), looks := false }, kinds := [], alts := [], laidByText := true, laidKinds := [.data, .pinned], laidTests := true, laidLooks := .later }
def NearMadeUptoCardSaid : Prop := Claim7.holds Tryd.pinned (.plain (OpenSpec.upto nearMadeSpec)) nearMadeUptoCard

/-- THE SECOND FORM's CARD OF 'redpenlaw09.NearMore'. -/
def nearMoreUptoCard : Claim7 := { stood := { row := nearMoreUptoRow, standIns := [], harness := (true, "7a537fabb124cf96bf5043ed1df115f73348ad4ef31a4ac3a9418007ad2a51cb"), looks := false }, kinds := [], alts := [], laidByText := true, laidKinds := [.data, .pinned], laidTests := true, laidLooks := .later }
def NearMoreUptoCardSaid : Prop := Claim7.holds Tryd.pinned (.plain (OpenSpec.upto nearMoreSpec)) nearMoreUptoCard

/-- THE SECOND FORM's CARD OF 'redpenlaw09.NearNone'. -/
def nearNoneUptoCard : Claim7 := { stood := { row := nearNoneUptoRow, standIns := [], harness := (true, "7a537fabb124cf96bf5043ed1df115f73348ad4ef31a4ac3a9418007ad2a51cb"), looks := false }, kinds := [], alts := [], laidByText := true, laidKinds := [.data, .pinned], laidTests := true, laidLooks := .later }
def NearNoneUptoCardSaid : Prop := Claim7.holds Tryd.pinned (.plain (OpenSpec.upto nearNoneSpec)) nearNoneUptoCard
end Rows
end Go.Proofs.YtfikkkodepfdkaaDoor
