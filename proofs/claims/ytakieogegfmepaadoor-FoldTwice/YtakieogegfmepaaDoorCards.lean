/-
  DERIVED. GIVEN WITH THE SEED: THE CARDS: each row of YtakieogegfmepaaDoorRows.lean that lists a variable, with what it lists TIED to the program's text (the seventh form; the later family's looks); each row that meets fmt, with fmt's text TOLD by the authors' own Lean function (tested against real Go, not proved from fmt's source: count such statements apart). THE CARD IS WHAT COUNTS. Prove the row's statement (the work); the ties are given (YtakieogegfmepaaDoorTie.lean); close each card by the builder's one call (the guide's Derived/Test/ToyasCard.lean, 'card_holds'). Laid BY PROGRAM, IN A SANDBOX (cutbox-door.mjs). By AI agents, Wed Nov 11 2026. No macro, syntax, notation, axiom, sorry.
-/
import Derived.Test.YtakieogegfmepaaDoorRows
import GoSem.ClaimSeven
namespace Go.Proofs.YtakieogegfmepaaDoor
namespace Rows

/-- THE TIED CARD OF 'redpenlaw04.FoldSigns'. -/
def foldSignsCard : Claim7 := { stood := { row := foldSignsRow, standIns := [], harness := (true, "20b35967aa11e857e16d1a530a79ca7b84207a40d9ab7d17e49b49a507597b2d"), looks := false }, kinds := [], alts := [], laidByText := true, laidKinds := [.data, .pinned], laidTests := true, laidLooks := .later }
def FoldSignsCardSaid : Prop := Claim7.holds Tryd.pinned (.plain (OpenSpec.ofChange foldSignsSpec)) foldSignsCard

/-- THE TIED CARD OF 'redpenlaw04.FoldTwice'. -/
def foldTwiceCard : Claim7 := { stood := { row := foldTwiceRow, standIns := [], harness := (true, "20b35967aa11e857e16d1a530a79ca7b84207a40d9ab7d17e49b49a507597b2d"), looks := false }, kinds := [], alts := [], laidByText := true, laidKinds := [.data, .pinned], laidTests := true, laidLooks := .later }
def FoldTwiceCardSaid : Prop := Claim7.holds Tryd.pinned (.plain (OpenSpec.ofChange foldTwiceSpec)) foldTwiceCard

/-- THE TIED CARD OF 'redpenlaw04.FoldPairs'. -/
def foldPairsCard : Claim7 := { stood := { row := foldPairsRow, standIns := [], harness := (true, "20b35967aa11e857e16d1a530a79ca7b84207a40d9ab7d17e49b49a507597b2d"), looks := false }, kinds := [], alts := [], laidByText := true, laidKinds := [.data, .pinned], laidTests := true, laidLooks := .later }
def FoldPairsCardSaid : Prop := Claim7.holds Tryd.pinned (.plain (OpenSpec.ofChange foldPairsSpec)) foldPairsCard

/-- THE SECOND FORM's CARD OF 'redpenlaw04.FoldSigns'. -/
def foldSignsUptoCard : Claim7 := { stood := { row := foldSignsUptoRow, standIns := [], harness := (true, "20b35967aa11e857e16d1a530a79ca7b84207a40d9ab7d17e49b49a507597b2d"), looks := false }, kinds := [], alts := [], laidByText := true, laidKinds := [.data, .pinned], laidTests := true, laidLooks := .later }
def FoldSignsUptoCardSaid : Prop := Claim7.holds Tryd.pinned (.plain (OpenSpec.upto foldSignsSpec)) foldSignsUptoCard

/-- THE SECOND FORM's CARD OF 'redpenlaw04.FoldTwice'. -/
def foldTwiceUptoCard : Claim7 := { stood := { row := foldTwiceUptoRow, standIns := [], harness := (true, "20b35967aa11e857e16d1a530a79ca7b84207a40d9ab7d17e49b49a507597b2d"), looks := false }, kinds := [], alts := [], laidByText := true, laidKinds := [.data, .pinned], laidTests := true, laidLooks := .later }
def FoldTwiceUptoCardSaid : Prop := Claim7.holds Tryd.pinned (.plain (OpenSpec.upto foldTwiceSpec)) foldTwiceUptoCard

/-- THE SECOND FORM's CARD OF 'redpenlaw04.FoldPairs'. -/
def foldPairsUptoCard : Claim7 := { stood := { row := foldPairsUptoRow, standIns := [], harness := (true, "20b35967aa11e857e16d1a530a79ca7b84207a40d9ab7d17e49b49a507597b2d"), looks := false }, kinds := [], alts := [], laidByText := true, laidKinds := [.data, .pinned], laidTests := true, laidLooks := .later }
def FoldPairsUptoCardSaid : Prop := Claim7.holds Tryd.pinned (.plain (OpenSpec.upto foldPairsSpec)) foldPairsUptoCard
end Rows
end Go.Proofs.YtakieogegfmepaaDoor
