/-
  DERIVED. GIVEN WITH THE SEED: THE CARDS: each row of YtbmmjpmgkkljgaaDoorRows.lean that lists a variable, with what it lists TIED to the program's text (the seventh form; the later family's looks); each row that meets fmt, with fmt's text TOLD by the authors' own Lean function (tested against real Go, not proved from fmt's source: count such statements apart). THE CARD IS WHAT COUNTS. Prove the row's statement (the work); the ties are given (YtbmmjpmgkkljgaaDoorTie.lean); close each card by the builder's one call (the guide's Derived/Test/ToyasCard.lean, 'card_holds'). Laid BY PROGRAM, IN A SANDBOX (cutbox-door.mjs). By AI agents, Wed Nov 11 2026. No macro, syntax, notation, axiom, sorry.
-/
import Derived.Test.YtbmmjpmgkkljgaaDoorRows
import GoSem.ClaimSeven
namespace Go.Proofs.YtbmmjpmgkkljgaaDoor
namespace Rows

/-- THE TIED CARD OF 'redpenlaw07.TrieMakes'. -/
def trieMakesCard : Claim7 := { stood := { row := trieMakesRow, standIns := [], harness := (true, "9d91a954a1bf22053196d7c66af13dd037f67fdcfb682e18faeaf5ac7821e092"), looks := false }, kinds := [], alts := [], laidByText := true, laidKinds := [.data, .pinned], laidTests := true, laidLooks := .later }
def TrieMakesCardSaid : Prop := Claim7.holds Tryd.pinned (.plain (OpenSpec.ofChange trieMakesSpec)) trieMakesCard

/-- THE TIED CARD OF 'redpenlaw07.TrieHas'. -/
def trieHasCard : Claim7 := { stood := { row := trieHasRow, standIns := [], harness := (true, "9d91a954a1bf22053196d7c66af13dd037f67fdcfb682e18faeaf5ac7821e092"), looks := false }, kinds := [], alts := [], laidByText := true, laidKinds := [.data, .pinned], laidTests := true, laidLooks := .later }
def TrieHasCardSaid : Prop := Claim7.holds Tryd.pinned (.plain (OpenSpec.ofChange trieHasSpec)) trieHasCard

/-- THE TIED CARD OF 'redpenlaw07.TrieNodes'. -/
def trieNodesCard : Claim7 := { stood := { row := trieNodesRow, standIns := [], harness := (true, "9d91a954a1bf22053196d7c66af13dd037f67fdcfb682e18faeaf5ac7821e092"), looks := false }, kinds := [], alts := [], laidByText := true, laidKinds := [.data, .pinned], laidTests := true, laidLooks := .later }
def TrieNodesCardSaid : Prop := Claim7.holds Tryd.pinned (.plain (OpenSpec.ofChange trieNodesSpec)) trieNodesCard

/-- THE TIED CARD OF 'redpenlaw07.TrieLimits'. -/
def trieLimitsCard : Claim7 := { stood := { row := trieLimitsRow, standIns := [], harness := (true, "9d91a954a1bf22053196d7c66af13dd037f67fdcfb682e18faeaf5ac7821e092"), looks := false }, kinds := [], alts := [], laidByText := true, laidKinds := [.data, .pinned], laidTests := true, laidLooks := .later }
def TrieLimitsCardSaid : Prop := Claim7.holds Tryd.pinned (.plain (OpenSpec.ofChange trieLimitsSpec)) trieLimitsCard

/-- THE TIED CARD OF 'redpenlaw07.TrieMore'. -/
def trieMoreCard : Claim7 := { stood := { row := trieMoreRow, standIns := [], harness := (true, "9d91a954a1bf22053196d7c66af13dd037f67fdcfb682e18faeaf5ac7821e092"), looks := false }, kinds := [], alts := [], laidByText := true, laidKinds := [.data, .pinned], laidTests := true, laidLooks := .later }
def TrieMoreCardSaid : Prop := Claim7.holds Tryd.pinned (.plain (OpenSpec.ofChange trieMoreSpec)) trieMoreCard

/-- THE SECOND FORM's CARD OF 'redpenlaw07.TrieMakes'. -/
def trieMakesUptoCard : Claim7 := { stood := { row := trieMakesUptoRow, standIns := [], harness := (true, "9d91a954a1bf22053196d7c66af13dd037f67fdcfb682e18faeaf5ac7821e092"), looks := false }, kinds := [], alts := [], laidByText := true, laidKinds := [.data, .pinned], laidTests := true, laidLooks := .later }
def TrieMakesUptoCardSaid : Prop := Claim7.holds Tryd.pinned (.plain (OpenSpec.upto trieMakesSpec)) trieMakesUptoCard

/-- THE SECOND FORM's CARD OF 'redpenlaw07.TrieHas'. -/
def trieHasUptoCard : Claim7 := { stood := { row := trieHasUptoRow, standIns := [], harness := (true, "9d91a954a1bf22053196d7c66af13dd037f67fdcfb682e18faeaf5ac7821e092"), looks := false }, kinds := [], alts := [], laidByText := true, laidKinds := [.data, .pinned], laidTests := true, laidLooks := .later }
def TrieHasUptoCardSaid : Prop := Claim7.holds Tryd.pinned (.plain (OpenSpec.upto trieHasSpec)) trieHasUptoCard

/-- THE SECOND FORM's CARD OF 'redpenlaw07.TrieNodes'. -/
def trieNodesUptoCard : Claim7 := { stood := { row := trieNodesUptoRow, standIns := [], harness := (true, "9d91a954a1bf22053196d7c66af13dd037f67fdcfb682e18faeaf5ac7821e092"), looks := false }, kinds := [], alts := [], laidByText := true, laidKinds := [.data, .pinned], laidTests := true, laidLooks := .later }
def TrieNodesUptoCardSaid : Prop := Claim7.holds Tryd.pinned (.plain (OpenSpec.upto trieNodesSpec)) trieNodesUptoCard

/-- THE SECOND FORM's CARD OF 'redpenlaw07.TrieLimits'. -/
def trieLimitsUptoCard : Claim7 := { stood := { row := trieLimitsUptoRow, standIns := [], harness := (true, "9d91a954a1bf22053196d7c66af13dd037f67fdcfb682e18faeaf5ac7821e092"), looks := false }, kinds := [], alts := [], laidByText := true, laidKinds := [.data, .pinned], laidTests := true, laidLooks := .later }
def TrieLimitsUptoCardSaid : Prop := Claim7.holds Tryd.pinned (.plain (OpenSpec.upto trieLimitsSpec)) trieLimitsUptoCard

/-- THE SECOND FORM's CARD OF 'redpenlaw07.TrieMore'. -/
def trieMoreUptoCard : Claim7 := { stood := { row := trieMoreUptoRow, standIns := [], harness := (true, "9d91a954a1bf22053196d7c66af13dd037f67fdcfb682e18faeaf5ac7821e092"), looks := false }, kinds := [], alts := [], laidByText := true, laidKinds := [.data, .pinned], laidTests := true, laidLooks := .later }
def TrieMoreUptoCardSaid : Prop := Claim7.holds Tryd.pinned (.plain (OpenSpec.upto trieMoreSpec)) trieMoreUptoCard
end Rows
end Go.Proofs.YtbmmjpmgkkljgaaDoor
