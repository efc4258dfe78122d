/-
  DERIVED. GIVEN WITH THE SEED: THE CARDS: each row of YtjieonldmckheaaDoorRows.lean that lists a variable, with what it lists TIED to the program's text (the seventh form; the later family's looks); each row that meets fmt, with fmt's text TOLD by the authors' own Lean function (tested against real Go, not proved from fmt's source: count such statements apart). THE CARD IS WHAT COUNTS. Prove the row's statement (the work); the ties are given (YtjieonldmckheaaDoorTie.lean); close each card by the builder's one call (the guide's Derived/Test/ToyasCard.lean, 'card_holds'). Laid BY PROGRAM, IN A SANDBOX (cutbox-door.mjs). By AI agents, Wed Nov 11 2026. No macro, syntax, notation, axiom, sorry.
-/
import Derived.Test.YtjieonldmckheaaDoorRows
import GoSem.ClaimSeven
namespace Go.Proofs.YtjieonldmckheaaDoor
namespace Rows

/-- THE TIED CARD OF 'redpenlaw11.HtmlLex'. -/
def htmlLexCard : Claim7 := { stood := { row := htmlLexRow, standIns := [], harness := (true, "a93516e7850bdbf0943fc5f8565fdef8468205cfce158d64001a91bd5782eef8"), looks := false }, kinds := [], alts := [], laidByText := true, laidKinds := [.data], laidTests := true, laidLooks := .later }
def HtmlLexCardSaid : Prop := Claim7.holds Tryd.pinned (.plain (OpenSpec.ofChange htmlLexSpec)) htmlLexCard

/-- THE TIED CARD OF 'redpenlaw11.HtmlTags'. -/
def htmlTagsCard : Claim7 := { stood := { row := htmlTagsRow, standIns := [], harness := (true, "a93516e7850bdbf0943fc5f8565fdef8468205cfce158d64001a91bd5782eef8"), looks := false }, kinds := [], alts := [], laidByText := true, laidKinds := [.data], laidTests := true, laidLooks := .later }
def HtmlTagsCardSaid : Prop := Claim7.holds Tryd.pinned (.plain (OpenSpec.ofChange htmlTagsSpec)) htmlTagsCard

/-- THE TIED CARD OF 'redpenlaw11.HtmlMade'. -/
def htmlMadeCard : Claim7 := { stood := { row := htmlMadeRow, standIns := [], harness := (true, "a93516e7850bdbf0943fc5f8565fdef8468205cfce158d64001a91bd5782eef8"), looks := false }, kinds := [], alts := [], laidByText := true, laidKinds := [.data], laidTests := true, laidLooks := .later }
def HtmlMadeCardSaid : Prop := Claim7.holds Tryd.pinned (.plain (OpenSpec.ofChange htmlMadeSpec)) htmlMadeCard

/-- THE TIED CARD OF 'redpenlaw11.HtmlRaw'. -/
def htmlRawCard : Claim7 := { stood := { row := htmlRawRow, standIns := [], harness := (true, "a93516e7850bdbf0943fc5f8565fdef8468205cfce158d64001a91bd5782eef8"), looks := false }, kinds := [], alts := [], laidByText := true, laidKinds := [.data], laidTests := true, laidLooks := .later }
def HtmlRawCardSaid : Prop := Claim7.holds Tryd.pinned (.plain (OpenSpec.ofChange htmlRawSpec)) htmlRawCard

/-- THE TIED CARD OF 'redpenlaw11.HtmlPlain'. -/
def htmlPlainCard : Claim7 := { stood := { row := htmlPlainRow, standIns := [], harness := (true, "a93516e7850bdbf0943fc5f8565fdef8468205cfce158d64001a91bd5782eef8"), looks := false }, kinds := [], alts := [], laidByText := true, laidKinds := [.data], laidTests := true, laidLooks := .later }
def HtmlPlainCardSaid : Prop := Claim7.holds Tryd.pinned (.plain (OpenSpec.ofChange htmlPlainSpec)) htmlPlainCard

/-- THE TIED CARD OF 'redpenlaw11.HtmlGreat'. -/
def htmlGreatCard : Claim7 := { stood := { row := htmlGreatRow, standIns := [], harness := (true, "a93516e7850bdbf0943fc5f8565fdef8468205cfce158d64001a91bd5782eef8"), looks := false }, kinds := [], alts := [], laidByText := true, laidKinds := [.data], laidTests := true, laidLooks := .later }
def HtmlGreatCardSaid : Prop := Claim7.holds Tryd.pinned (.plain (OpenSpec.ofChange htmlGreatSpec)) htmlGreatCard

/-- THE SECOND FORM's CARD OF 'redpenlaw11.HtmlLex'. -/
def htmlLexUptoCard : Claim7 := { stood := { row := htmlLexUptoRow, standIns := [], harness := (true, "a93516e7850bdbf0943fc5f8565fdef8468205cfce158d64001a91bd5782eef8"), looks := false }, kinds := [], alts := [], laidByText := true, laidKinds := [.data], laidTests := true, laidLooks := .later }
def HtmlLexUptoCardSaid : Prop := Claim7.holds Tryd.pinned (.plain (OpenSpec.upto htmlLexSpec)) htmlLexUptoCard

/-- THE SECOND FORM's CARD OF 'redpenlaw11.HtmlTags'. -/
def htmlTagsUptoCard : Claim7 := { stood := { row := htmlTagsUptoRow, standIns := [], harness := (true, "a93516e7850bdbf0943fc5f8565fdef8468205cfce158d64001a91bd5782eef8"), looks := false }, kinds := [], alts := [], laidByText := true, laidKinds := [.data], laidTests := true, laidLooks := .later }
def HtmlTagsUptoCardSaid : Prop := Claim7.holds Tryd.pinned (.plain (OpenSpec.upto htmlTagsSpec)) htmlTagsUptoCard

/-- THE SECOND FORM's CARD OF 'redpenlaw11.HtmlMade'. -/
def htmlMadeUptoCard : Claim7 := { stood := { row := htmlMadeUptoRow, standIns := [], harness := (true, "a93516e7850bdbf0943fc5f8565fdef8468205cfce158d64001a91bd5782eef8"), looks := false }, kinds := [], alts := [], laidByText := true, laidKinds := [.data], laidTests := true, laidLooks := .later }
def HtmlMadeUptoCardSaid : Prop := Claim7.holds Tryd.pinned (.plain (OpenSpec.upto htmlMadeSpec)) htmlMadeUptoCard

/-- THE SECOND FORM's CARD OF 'redpenlaw11.HtmlRaw'. -/
def htmlRawUptoCard : Claim7 := { stood := { row := htmlRawUptoRow, standIns := [], harness := (true, "a93516e7850bdbf0943fc5f8565fdef8468205cfce158d64001a91bd5782eef8"), looks := false }, kinds := [], alts := [], laidByText := true, laidKinds := [.data], laidTests := true, laidLooks := .later }
def HtmlRawUptoCardSaid : Prop := Claim7.holds Tryd.pinned (.plain (OpenSpec.upto htmlRawSpec)) htmlRawUptoCard

/-- THE SECOND FORM's CARD OF 'redpenlaw11.HtmlPlain'. -/
def htmlPlainUptoCard : Claim7 := { stood := { row := htmlPlainUptoRow, standIns := [], harness := (true, "a93516e7850bdbf0943fc5f8565fdef8468205cfce158d64001a91bd5782eef8"), looks := false }, kinds := [], alts := [], laidByText := true, laidKinds := [.data], laidTests := true, laidLooks := .later }
def HtmlPlainUptoCardSaid : Prop := Claim7.holds Tryd.pinned (.plain (OpenSpec.upto htmlPlainSpec)) htmlPlainUptoCard

/-- THE SECOND FORM's CARD OF 'redpenlaw11.HtmlGreat'. -/
def htmlGreatUptoCard : Claim7 := { stood := { row := htmlGreatUptoRow, standIns := [], harness := (true, "a93516e7850bdbf0943fc5f8565fdef8468205cfce158d64001a91bd5782eef8"), looks := false }, kinds := [], alts := [], laidByText := true, laidKinds := [.data], laidTests := true, laidLooks := .later }
def HtmlGreatUptoCardSaid : Prop := Claim7.holds Tryd.pinned (.plain (OpenSpec.upto htmlGreatSpec)) htmlGreatUptoCard
end Rows
end Go.Proofs.YtjieonldmckheaaDoor
