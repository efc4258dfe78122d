/-
  NARROWER THAN 'FOR EVERY INPUT', by the rows' own cells (each row's printed sentence says how): HtmlLex: laid · HtmlTags: laid · HtmlMade: laid · HtmlRaw: laid · HtmlPlain: laid · HtmlGreat: laid.
  DERIVED. THE GIVEN ROWS OF THIS SEAT. 6 by the template 'for every input the law returns true; each argument reads behind the call as it read before'; 0 by the template 'total and deterministic' (their statements: YtjieonldmckheaaDoorTotals.lean).
  GIVEN WITH THE SEED: the statements are not yours to turn. If you find one false, say at which input.
  Laid BY PROGRAM, IN A SANDBOX (cutbox-rows.mjs): the forced cells as the released guide's own fill.sh prints them over the translation 6d78469ca0622e2f… (all of the seat's roots in one cut). By AI agents, Wed Nov 11 2026. No macro, syntax, notation, axiom, sorry.
-/
import Derived.Test.YtjieonldmckheaaDoorChecked
import GoSem.Claim
import GoSem.ClaimJoined
import GoSem.ClaimMapViews
import Derived.JoinedTies
import Derived.KernelRfl
namespace Go.Proofs.YtjieonldmckheaaDoor
/- THE CELL 'sum', in the pinned program and in every row, IS THE sha256 OF THE DUMP (.gsa) THAT YtjieonldmckheaaDoorProg.lean LOADS. Nothing in Lean hashes anything: it is a label: what it is worth is what the hold of that sum in a sandbox is worth. -/
noncomputable def Tryd.pinned : Pinned := { name := "ytjieonldmckheaadoor", sum := "6d78469ca0622e2ff25ddac98ffb36c485a2b821fc111fea64e801cd270d6496", checked := Tryd.checked }
namespace Rows
def none {H : Type} : Left H := { results := [], args := [] }

/- WHAT THE LISTED PACKAGE-LEVEL VARIABLES READ AS WHEN THE CALL BEGINS. Each datum BY PROGRAM (the guide's laid-datum.mjs) off the statement by which the dump's own 'gosem.cut.vars' lays the variable. In a bare row this is a premise. The card (YtjieonldmckheaaDoorCards.lean) ties it to the program's text. -/
def laid_redpen_html_kinds {H : Type} : DataW H := .agg [.agg [.lit (.string [60, 33, 45, 45]), .lit (.string [45, 45, 62]), .lit (.int .u8 3)], .agg [.lit (.string [60, 33, 91, 67, 68, 65, 84, 65, 91]), .lit (.string [93, 93, 62]), .lit (.int .u8 6)], .agg [.lit (.string [60, 33]), .lit (.string [62]), .lit (.int .u8 2)], .agg [.lit (.string [60, 63]), .lit (.string [62]), .lit (.int .u8 2)]]

/-- 'redpenlaw11.HtmlLex': WHATEVER THE INPUT: true; the input reads as it did. -/
def htmlLexSpec : ChangeSpec := { name := "htmlLex", fn := fun _ => fun
  | [d1, d2] => { results := [.lit (.bool true)], args := [d1, d2] }
  | _ => none }
def htmlLexRow : OpenClaim := { program := "ytjieonldmckheaadoor", sum := "6d78469ca0622e2ff25ddac98ffb36c485a2b821fc111fea64e801cd270d6496", func := "redpen/redpenlaw11.HtmlLex", spec := "htmlLex", inPlace := ["internal/bytealg.IndexByte", "internal/bytealg.Index"], unfollowed := true, recurses := true, named := ["redpen/html.kinds", "internal/bytealg.MaxLen"], apart := false, laid := [("redpen/html.kinds", laid_redpen_html_kinds)] }
def HtmlLexSaid : Prop := htmlLexRow.holds Tryd.pinned (OpenSpec.ofChange htmlLexSpec)

/-- ITS FALSE NEIGHBOUR: 'it returns false'. Refute it at one input. -/
def htmlLexWrong : ChangeSpec := { name := "htmlLex", fn := fun _ => fun
  | [d1, d2] => { results := [.lit (.bool false)], args := [d1, d2] }
  | _ => none }
def HtmlLexWrongFalsely : Prop := htmlLexRow.holds Tryd.pinned (OpenSpec.ofChange htmlLexWrong)

/-- 'redpenlaw11.HtmlTags': WHATEVER THE INPUT: true; the input reads as it did. -/
def htmlTagsSpec : ChangeSpec := { name := "htmlTags", fn := fun _ => fun
  | [d1, d2, d3] => { results := [.lit (.bool true)], args := [d1, d2, d3] }
  | _ => none }
def htmlTagsRow : OpenClaim := { program := "ytjieonldmckheaadoor", sum := "6d78469ca0622e2ff25ddac98ffb36c485a2b821fc111fea64e801cd270d6496", func := "redpen/redpenlaw11.HtmlTags", spec := "htmlTags", inPlace := ["internal/bytealg.IndexByte", "internal/bytealg.Index"], unfollowed := true, recurses := true, named := ["redpen/html.kinds", "internal/bytealg.MaxLen"], apart := false, laid := [("redpen/html.kinds", laid_redpen_html_kinds)] }
def HtmlTagsSaid : Prop := htmlTagsRow.holds Tryd.pinned (OpenSpec.ofChange htmlTagsSpec)

/-- ITS FALSE NEIGHBOUR: 'it returns false'. Refute it at one input. -/
def htmlTagsWrong : ChangeSpec := { name := "htmlTags", fn := fun _ => fun
  | [d1, d2, d3] => { results := [.lit (.bool false)], args := [d1, d2, d3] }
  | _ => none }
def HtmlTagsWrongFalsely : Prop := htmlTagsRow.holds Tryd.pinned (OpenSpec.ofChange htmlTagsWrong)

/-- 'redpenlaw11.HtmlMade': WHATEVER THE INPUT: true; the input reads as it did. -/
def htmlMadeSpec : ChangeSpec := { name := "htmlMade", fn := fun _ => fun
  | [d1, d2, d3, d4] => { results := [.lit (.bool true)], args := [d1, d2, d3, d4] }
  | _ => none }
def htmlMadeRow : OpenClaim := { program := "ytjieonldmckheaadoor", sum := "6d78469ca0622e2ff25ddac98ffb36c485a2b821fc111fea64e801cd270d6496", func := "redpen/redpenlaw11.HtmlMade", spec := "htmlMade", inPlace := ["internal/bytealg.IndexByte", "internal/bytealg.Index"], unfollowed := true, recurses := true, named := ["redpen/html.kinds", "internal/bytealg.MaxLen"], apart := false, laid := [("redpen/html.kinds", laid_redpen_html_kinds)] }
def HtmlMadeSaid : Prop := htmlMadeRow.holds Tryd.pinned (OpenSpec.ofChange htmlMadeSpec)

/-- ITS FALSE NEIGHBOUR: 'it returns false'. Refute it at one input. -/
def htmlMadeWrong : ChangeSpec := { name := "htmlMade", fn := fun _ => fun
  | [d1, d2, d3, d4] => { results := [.lit (.bool false)], args := [d1, d2, d3, d4] }
  | _ => none }
def HtmlMadeWrongFalsely : Prop := htmlMadeRow.holds Tryd.pinned (OpenSpec.ofChange htmlMadeWrong)

/-- 'redpenlaw11.HtmlRaw': WHATEVER THE INPUT: true; the input reads as it did. -/
def htmlRawSpec : ChangeSpec := { name := "htmlRaw", fn := fun _ => fun
  | [d1, d2, d3] => { results := [.lit (.bool true)], args := [d1, d2, d3] }
  | _ => none }
def htmlRawRow : OpenClaim := { program := "ytjieonldmckheaadoor", sum := "6d78469ca0622e2ff25ddac98ffb36c485a2b821fc111fea64e801cd270d6496", func := "redpen/redpenlaw11.HtmlRaw", spec := "htmlRaw", inPlace := ["internal/bytealg.IndexByte", "internal/bytealg.Index"], unfollowed := true, recurses := true, named := ["redpen/html.kinds", "internal/bytealg.MaxLen"], apart := false, laid := [("redpen/html.kinds", laid_redpen_html_kinds)] }
def HtmlRawSaid : Prop := htmlRawRow.holds Tryd.pinned (OpenSpec.ofChange htmlRawSpec)

/-- ITS FALSE NEIGHBOUR: 'it returns false'. Refute it at one input. -/
def htmlRawWrong : ChangeSpec := { name := "htmlRaw", fn := fun _ => fun
  | [d1, d2, d3] => { results := [.lit (.bool false)], args := [d1, d2, d3] }
  | _ => none }
def HtmlRawWrongFalsely : Prop := htmlRawRow.holds Tryd.pinned (OpenSpec.ofChange htmlRawWrong)

/-- 'redpenlaw11.HtmlPlain': WHATEVER THE INPUT: true; the input reads as it did. -/
def htmlPlainSpec : ChangeSpec := { name := "htmlPlain", fn := fun _ => fun
  | [d1, d2, d3] => { results := [.lit (.bool true)], args := [d1, d2, d3] }
  | _ => none }
def htmlPlainRow : OpenClaim := { program := "ytjieonldmckheaadoor", sum := "6d78469ca0622e2ff25ddac98ffb36c485a2b821fc111fea64e801cd270d6496", func := "redpen/redpenlaw11.HtmlPlain", spec := "htmlPlain", inPlace := ["internal/bytealg.IndexByte", "internal/bytealg.Index"], unfollowed := true, recurses := true, named := ["redpen/html.kinds", "internal/bytealg.MaxLen"], apart := false, laid := [("redpen/html.kinds", laid_redpen_html_kinds)] }
def HtmlPlainSaid : Prop := htmlPlainRow.holds Tryd.pinned (OpenSpec.ofChange htmlPlainSpec)

/-- ITS FALSE NEIGHBOUR: 'it returns false'. Refute it at one input. -/
def htmlPlainWrong : ChangeSpec := { name := "htmlPlain", fn := fun _ => fun
  | [d1, d2, d3] => { results := [.lit (.bool false)], args := [d1, d2, d3] }
  | _ => none }
def HtmlPlainWrongFalsely : Prop := htmlPlainRow.holds Tryd.pinned (OpenSpec.ofChange htmlPlainWrong)

/-- 'redpenlaw11.HtmlGreat': WHATEVER THE INPUT: true; the input reads as it did. -/
def htmlGreatSpec : ChangeSpec := { name := "htmlGreat", fn := fun _ => fun
  | [d] => { results := [.lit (.bool true)], args := [d] }
  | _ => none }
def htmlGreatRow : OpenClaim := { program := "ytjieonldmckheaadoor", sum := "6d78469ca0622e2ff25ddac98ffb36c485a2b821fc111fea64e801cd270d6496", func := "redpen/redpenlaw11.HtmlGreat", spec := "htmlGreat", inPlace := ["internal/bytealg.IndexByte", "internal/bytealg.Index"], unfollowed := true, recurses := true, named := ["redpen/html.kinds", "internal/bytealg.MaxLen"], apart := false, laid := [("redpen/html.kinds", laid_redpen_html_kinds)] }
def HtmlGreatSaid : Prop := htmlGreatRow.holds Tryd.pinned (OpenSpec.ofChange htmlGreatSpec)

/-- ITS FALSE NEIGHBOUR: 'it returns false'. Refute it at one input. -/
def htmlGreatWrong : ChangeSpec := { name := "htmlGreat", fn := fun _ => fun
  | [d] => { results := [.lit (.bool false)], args := [d] }
  | _ => none }
def HtmlGreatWrongFalsely : Prop := htmlGreatRow.holds Tryd.pinned (OpenSpec.ofChange htmlGreatWrong)

/- THE SECOND FORM. 'bulk': how many values and letters a reading holds, each counted each time it is reached (what is shared counts as often as it is met; a slice's spare places count too). A statement '..UptoSaid' is the law's where the arguments, and the package variables that the reading takes, are together of bulk at most 1048576: NARROWER than '..Said'. Prove '..Said' where nothing that the law and all that it calls make is longer than what came in: it says more and counts as full. Else prove '..UptoSaid'. A law counts once. -/
mutual
def uptoBulk {H : Type} : DataW H → Nat
  | .lit (.string bytes) => bytes.length + 1
  | .lit _ => 1
  | .nil => 1
  | .ptr d => uptoBulk d + 1
  | .slice elems spare => uptoBulkAll elems + uptoBulkAll spare + 1
  | .agg parts => uptoBulkAll parts + 1
  | .iface _ d => uptoBulk d + 1
  | .map entries => uptoBulkEntries entries + 1
  | .held _ => 1
def uptoBulkAll {H : Type} : List (DataW H) → Nat
  | [] => 0
  | d :: r => uptoBulk d + uptoBulkAll r
def uptoBulkEntries {H : Type} : List (Lit × DataW H) → Nat
  | [] => 0
  | x :: r => uptoBulkEntry x + uptoBulkEntries r
def uptoBulkEntry {H : Type} : Lit × DataW H → Nat
  | (.string bytes, d) => bytes.length + uptoBulk d + 1
  | (_, d) => uptoBulk d + 1
 end
def uptoSmall : (H : Type) → List (DataW H) → Bool := fun _ ds => decide (uptoBulkAll ds ≤ 1048576)
def OpenSpec.upto (s : _root_.Go.ChangeSpec) : _root_.Go.OpenSpec := { _root_.Go.OpenSpec.ofChange s with cond := some uptoSmall }

/-- 'redpenlaw11.HtmlLex', WHERE WHAT IT READS IS OF BULK AT MOST 1048576: true; the input reads as it did. -/
def htmlLexUptoRow : OpenClaim := { program := "ytjieonldmckheaadoor", sum := "6d78469ca0622e2ff25ddac98ffb36c485a2b821fc111fea64e801cd270d6496", func := "redpen/redpenlaw11.HtmlLex", spec := "htmlLex", inPlace := ["internal/bytealg.IndexByte", "internal/bytealg.Index"], unfollowed := true, recurses := true, named := ["redpen/html.kinds", "internal/bytealg.MaxLen"], apart := false, laid := [("redpen/html.kinds", laid_redpen_html_kinds)], narrowed := true }
def HtmlLexUptoSaid : Prop := htmlLexUptoRow.holds Tryd.pinned (OpenSpec.upto htmlLexSpec)

/-- 'redpenlaw11.HtmlTags', WHERE WHAT IT READS IS OF BULK AT MOST 1048576: true; the input reads as it did. -/
def htmlTagsUptoRow : OpenClaim := { program := "ytjieonldmckheaadoor", sum := "6d78469ca0622e2ff25ddac98ffb36c485a2b821fc111fea64e801cd270d6496", func := "redpen/redpenlaw11.HtmlTags", spec := "htmlTags", inPlace := ["internal/bytealg.IndexByte", "internal/bytealg.Index"], unfollowed := true, recurses := true, named := ["redpen/html.kinds", "internal/bytealg.MaxLen"], apart := false, laid := [("redpen/html.kinds", laid_redpen_html_kinds)], narrowed := true }
def HtmlTagsUptoSaid : Prop := htmlTagsUptoRow.holds Tryd.pinned (OpenSpec.upto htmlTagsSpec)

/-- 'redpenlaw11.HtmlMade', WHERE WHAT IT READS IS OF BULK AT MOST 1048576: true; the input reads as it did. -/
def htmlMadeUptoRow : OpenClaim := { program := "ytjieonldmckheaadoor", sum := "6d78469ca0622e2ff25ddac98ffb36c485a2b821fc111fea64e801cd270d6496", func := "redpen/redpenlaw11.HtmlMade", spec := "htmlMade", inPlace := ["internal/bytealg.IndexByte", "internal/bytealg.Index"], unfollowed := true, recurses := true, named := ["redpen/html.kinds", "internal/bytealg.MaxLen"], apart := false, laid := [("redpen/html.kinds", laid_redpen_html_kinds)], narrowed := true }
def HtmlMadeUptoSaid : Prop := htmlMadeUptoRow.holds Tryd.pinned (OpenSpec.upto htmlMadeSpec)

/-- 'redpenlaw11.HtmlRaw', WHERE WHAT IT READS IS OF BULK AT MOST 1048576: true; the input reads as it did. -/
def htmlRawUptoRow : OpenClaim := { program := "ytjieonldmckheaadoor", sum := "6d78469ca0622e2ff25ddac98ffb36c485a2b821fc111fea64e801cd270d6496", func := "redpen/redpenlaw11.HtmlRaw", spec := "htmlRaw", inPlace := ["internal/bytealg.IndexByte", "internal/bytealg.Index"], unfollowed := true, recurses := true, named := ["redpen/html.kinds", "internal/bytealg.MaxLen"], apart := false, laid := [("redpen/html.kinds", laid_redpen_html_kinds)], narrowed := true }
def HtmlRawUptoSaid : Prop := htmlRawUptoRow.holds Tryd.pinned (OpenSpec.upto htmlRawSpec)

/-- 'redpenlaw11.HtmlPlain', WHERE WHAT IT READS IS OF BULK AT MOST 1048576: true; the input reads as it did. -/
def htmlPlainUptoRow : OpenClaim := { program := "ytjieonldmckheaadoor", sum := "6d78469ca0622e2ff25ddac98ffb36c485a2b821fc111fea64e801cd270d6496", func := "redpen/redpenlaw11.HtmlPlain", spec := "htmlPlain", inPlace := ["internal/bytealg.IndexByte", "internal/bytealg.Index"], unfollowed := true, recurses := true, named := ["redpen/html.kinds", "internal/bytealg.MaxLen"], apart := false, laid := [("redpen/html.kinds", laid_redpen_html_kinds)], narrowed := true }
def HtmlPlainUptoSaid : Prop := htmlPlainUptoRow.holds Tryd.pinned (OpenSpec.upto htmlPlainSpec)

/-- 'redpenlaw11.HtmlGreat', WHERE WHAT IT READS IS OF BULK AT MOST 1048576: true; the input reads as it did. -/
def htmlGreatUptoRow : OpenClaim := { program := "ytjieonldmckheaadoor", sum := "6d78469ca0622e2ff25ddac98ffb36c485a2b821fc111fea64e801cd270d6496", func := "redpen/redpenlaw11.HtmlGreat", spec := "htmlGreat", inPlace := ["internal/bytealg.IndexByte", "internal/bytealg.Index"], unfollowed := true, recurses := true, named := ["redpen/html.kinds", "internal/bytealg.MaxLen"], apart := false, laid := [("redpen/html.kinds", laid_redpen_html_kinds)], narrowed := true }
def HtmlGreatUptoSaid : Prop := htmlGreatUptoRow.holds Tryd.pinned (OpenSpec.upto htmlGreatSpec)

end Rows
end Go.Proofs.YtjieonldmckheaaDoor
