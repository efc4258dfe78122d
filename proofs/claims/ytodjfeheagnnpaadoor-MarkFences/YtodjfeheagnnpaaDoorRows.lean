/-
  NARROWER THAN 'FOR EVERY INPUT', by the rows' own cells (each row's printed sentence says how): HtmlMade: laid · MarkFences: laid · MarkSpans: laid · MarkFront: laid · MarkPlain: laid.
  DERIVED. THE GIVEN ROWS OF THIS SEAT. 5 by the template 'for every input the law returns true; each argument reads behind the call as it read before'; 0 by the template 'total and deterministic' (their statements: YtodjfeheagnnpaaDoorTotals.lean).
  GIVEN WITH THE SEED: the statements are not yours to turn. If you find one false, say at which input.
  Laid BY PROGRAM, IN A SANDBOX (cutbox-rows.mjs): the forced cells as the released guide's own fill.sh prints them over the translation 70b7f3776638d423… (all of the seat's roots in one cut). By AI agents, Wed Nov 11 2026. No macro, syntax, notation, axiom, sorry.
-/
import Derived.Test.YtodjfeheagnnpaaDoorChecked
import GoSem.PinnedTables
import GoSem.Claim
import GoSem.ClaimJoined
import GoSem.ClaimMapViews
import Derived.JoinedTies
import Derived.KernelRfl
namespace Go.Proofs.YtodjfeheagnnpaaDoor
/- THE CELL 'sum', in the pinned program and in every row, IS THE sha256 OF THE DUMP (.gsa) THAT YtodjfeheagnnpaaDoorProg.lean LOADS. Nothing in Lean hashes anything: it is a label: what it is worth is what the hold of that sum in a sandbox is worth. -/
noncomputable def Tryd.pinned : Pinned := { name := "ytodjfeheagnnpaadoor", sum := "70b7f3776638d4238c114cb724c830dbeb613084ca7ea8904885f3f3b2fbeec4", checked := Tryd.checked }
namespace Rows
def none {H : Type} : Left H := { results := [], args := [] }

/- WHAT THE LISTED PACKAGE-LEVEL VARIABLES READ AS WHEN THE CALL BEGINS. Each datum BY PROGRAM (the guide's laid-datum.mjs) off the statement by which the dump's own 'gosem.cut.vars' lays the variable. In a bare row this is a premise. The card (YtodjfeheagnnpaaDoorCards.lean) ties it to the program's text. -/
def laid_redpen_html_kinds {H : Type} : DataW H := .agg [.agg [.lit (.string [60, 33, 45, 45]), .lit (.string [45, 45, 62]), .lit (.int .u8 3)], .agg [.lit (.string [60, 33, 91, 67, 68, 65, 84, 65, 91]), .lit (.string [93, 93, 62]), .lit (.int .u8 6)], .agg [.lit (.string [60, 33]), .lit (.string [62]), .lit (.int .u8 2)], .agg [.lit (.string [60, 63]), .lit (.string [62]), .lit (.int .u8 2)]]
def laid_unicode_utf8_acceptRanges {H : Type} : DataW H := .agg [.agg [.lit (.int .u8 128), .lit (.int .u8 191)], .agg [.lit (.int .u8 160), .lit (.int .u8 191)], .agg [.lit (.int .u8 128), .lit (.int .u8 159)], .agg [.lit (.int .u8 144), .lit (.int .u8 191)], .agg [.lit (.int .u8 128), .lit (.int .u8 143)], .agg [.lit (.int .u8 0), .lit (.int .u8 0)], .agg [.lit (.int .u8 0), .lit (.int .u8 0)], .agg [.lit (.int .u8 0), .lit (.int .u8 0)], .agg [.lit (.int .u8 0), .lit (.int .u8 0)], .agg [.lit (.int .u8 0), .lit (.int .u8 0)], .agg [.lit (.int .u8 0), .lit (.int .u8 0)], .agg [.lit (.int .u8 0), .lit (.int .u8 0)], .agg [.lit (.int .u8 0), .lit (.int .u8 0)], .agg [.lit (.int .u8 0), .lit (.int .u8 0)], .agg [.lit (.int .u8 0), .lit (.int .u8 0)], .agg [.lit (.int .u8 0), .lit (.int .u8 0)]]
/-- One of Go's own tables, pinned by name: the form's constant. -/
def laid_unicode_utf8_first : DataW Unit := Go.Pinned.utf8First

/-- 'redpenlaw11.HtmlMade': WHATEVER THE INPUT: true; the input reads as it did. -/
def htmlMadeSpec : ChangeSpec := { name := "htmlMade", fn := fun _ => fun
  | [d1, d2, d3, d4] => { results := [.lit (.bool true)], args := [d1, d2, d3, d4] }
  | _ => none }
def htmlMadeRow : OpenClaim := { program := "ytodjfeheagnnpaadoor", sum := "70b7f3776638d4238c114cb724c830dbeb613084ca7ea8904885f3f3b2fbeec4", func := "redpen/redpenlaw11.HtmlMade", spec := "htmlMade", inPlace := ["internal/bytealg.IndexByte", "internal/bytealg.Index"], unfollowed := true, recurses := true, named := ["redpen/html.kinds", "internal/bytealg.MaxLen"], apart := false, laid := [("redpen/html.kinds", laid_redpen_html_kinds)] }
def HtmlMadeSaid : Prop := htmlMadeRow.holds Tryd.pinned (OpenSpec.ofChange htmlMadeSpec)

/-- ITS FALSE NEIGHBOUR: 'it returns false'. Refute it at one input. -/
def htmlMadeWrong : ChangeSpec := { name := "htmlMade", fn := fun _ => fun
  | [d1, d2, d3, d4] => { results := [.lit (.bool false)], args := [d1, d2, d3, d4] }
  | _ => none }
def HtmlMadeWrongFalsely : Prop := htmlMadeRow.holds Tryd.pinned (OpenSpec.ofChange htmlMadeWrong)

/-- 'redpenlaw12.MarkFences': WHATEVER THE INPUT: true; the input reads as it did. -/
def markFencesSpec : ChangeSpec := { name := "markFences", fn := fun _ => fun
  | [d1, d2, d3, d4] => { results := [.lit (.bool true)], args := [d1, d2, d3, d4] }
  | _ => none }
def markFencesRow : OpenClaim := { program := "ytodjfeheagnnpaadoor", sum := "70b7f3776638d4238c114cb724c830dbeb613084ca7ea8904885f3f3b2fbeec4", func := "redpen/redpenlaw12.MarkFences", spec := "markFences", inPlace := ["internal/bytealg.IndexByte", "internal/bytealg.IndexByteString", "internal/bytealg.Index", "internal/bytealg.IndexString"], unfollowed := true, recurses := true, named := ["unicode/utf8.first", "unicode/utf8.acceptRanges", "internal/bytealg.MaxLen"], apart := false, laid := [("unicode/utf8.acceptRanges", laid_unicode_utf8_acceptRanges), ("unicode/utf8.first", laid_unicode_utf8_first)] }
def MarkFencesSaid : Prop := markFencesRow.holds Tryd.pinned (OpenSpec.ofChange markFencesSpec)

/-- ITS FALSE NEIGHBOUR: 'it returns false'. Refute it at one input. -/
def markFencesWrong : ChangeSpec := { name := "markFences", fn := fun _ => fun
  | [d1, d2, d3, d4] => { results := [.lit (.bool false)], args := [d1, d2, d3, d4] }
  | _ => none }
def MarkFencesWrongFalsely : Prop := markFencesRow.holds Tryd.pinned (OpenSpec.ofChange markFencesWrong)

/-- 'redpenlaw12.MarkSpans': WHATEVER THE INPUT: true; the input reads as it did. -/
def markSpansSpec : ChangeSpec := { name := "markSpans", fn := fun _ => fun
  | [d1, d2, d3, d4] => { results := [.lit (.bool true)], args := [d1, d2, d3, d4] }
  | _ => none }
def markSpansRow : OpenClaim := { program := "ytodjfeheagnnpaadoor", sum := "70b7f3776638d4238c114cb724c830dbeb613084ca7ea8904885f3f3b2fbeec4", func := "redpen/redpenlaw12.MarkSpans", spec := "markSpans", inPlace := ["internal/bytealg.IndexByte", "internal/bytealg.IndexByteString", "internal/bytealg.Index", "internal/bytealg.IndexString"], unfollowed := true, recurses := true, named := ["unicode/utf8.first", "unicode/utf8.acceptRanges", "internal/bytealg.MaxLen"], apart := false, laid := [("unicode/utf8.acceptRanges", laid_unicode_utf8_acceptRanges), ("unicode/utf8.first", laid_unicode_utf8_first)] }
def MarkSpansSaid : Prop := markSpansRow.holds Tryd.pinned (OpenSpec.ofChange markSpansSpec)

/-- ITS FALSE NEIGHBOUR: 'it returns false'. Refute it at one input. -/
def markSpansWrong : ChangeSpec := { name := "markSpans", fn := fun _ => fun
  | [d1, d2, d3, d4] => { results := [.lit (.bool false)], args := [d1, d2, d3, d4] }
  | _ => none }
def MarkSpansWrongFalsely : Prop := markSpansRow.holds Tryd.pinned (OpenSpec.ofChange markSpansWrong)

/-- 'redpenlaw12.MarkFront': WHATEVER THE INPUT: true; the input reads as it did. -/
def markFrontSpec : ChangeSpec := { name := "markFront", fn := fun _ => fun
  | [d1, d2, d3] => { results := [.lit (.bool true)], args := [d1, d2, d3] }
  | _ => none }
def markFrontRow : OpenClaim := { program := "ytodjfeheagnnpaadoor", sum := "70b7f3776638d4238c114cb724c830dbeb613084ca7ea8904885f3f3b2fbeec4", func := "redpen/redpenlaw12.MarkFront", spec := "markFront", inPlace := ["internal/bytealg.IndexByte", "internal/bytealg.IndexByteString", "internal/bytealg.Index", "internal/bytealg.IndexString"], unfollowed := true, recurses := true, named := ["unicode/utf8.first", "unicode/utf8.acceptRanges", "internal/bytealg.MaxLen"], apart := false, laid := [("unicode/utf8.acceptRanges", laid_unicode_utf8_acceptRanges), ("unicode/utf8.first", laid_unicode_utf8_first)] }
def MarkFrontSaid : Prop := markFrontRow.holds Tryd.pinned (OpenSpec.ofChange markFrontSpec)

/-- ITS FALSE NEIGHBOUR: 'it returns false'. Refute it at one input. -/
def markFrontWrong : ChangeSpec := { name := "markFront", fn := fun _ => fun
  | [d1, d2, d3] => { results := [.lit (.bool false)], args := [d1, d2, d3] }
  | _ => none }
def MarkFrontWrongFalsely : Prop := markFrontRow.holds Tryd.pinned (OpenSpec.ofChange markFrontWrong)

/-- 'redpenlaw12.MarkPlain': WHATEVER THE INPUT: true; the input reads as it did. -/
def markPlainSpec : ChangeSpec := { name := "markPlain", fn := fun _ => fun
  | [d] => { results := [.lit (.bool true)], args := [d] }
  | _ => none }
def markPlainRow : OpenClaim := { program := "ytodjfeheagnnpaadoor", sum := "70b7f3776638d4238c114cb724c830dbeb613084ca7ea8904885f3f3b2fbeec4", func := "redpen/redpenlaw12.MarkPlain", spec := "markPlain", inPlace := ["internal/bytealg.IndexByte", "internal/bytealg.IndexByteString", "internal/bytealg.Index", "internal/bytealg.IndexString"], unfollowed := true, recurses := true, named := ["unicode/utf8.first", "unicode/utf8.acceptRanges", "internal/bytealg.MaxLen"], apart := false, laid := [("unicode/utf8.acceptRanges", laid_unicode_utf8_acceptRanges), ("unicode/utf8.first", laid_unicode_utf8_first)] }
def MarkPlainSaid : Prop := markPlainRow.holds Tryd.pinned (OpenSpec.ofChange markPlainSpec)

/-- ITS FALSE NEIGHBOUR: 'it returns false'. Refute it at one input. -/
def markPlainWrong : ChangeSpec := { name := "markPlain", fn := fun _ => fun
  | [d] => { results := [.lit (.bool false)], args := [d] }
  | _ => none }
def MarkPlainWrongFalsely : Prop := markPlainRow.holds Tryd.pinned (OpenSpec.ofChange markPlainWrong)

/- THE SECOND FORM. 'bulk': how many values and letters a reading holds, each counted each time it is reached (what is shared counts as often as it is met; a slice's spare places count too). A statement '..UptoSaid' is the law's where the arguments, and the package variables that the reading takes, are together of bulk at most 1048576: NARROWER than '..Said'. Prove '..Said' where nothing that the law and all that it calls make is longer than what came in: it says more and counts as full. Else prove '..UptoSaid'. A law counts once. -/
mutual
def uptoBulk {H : Type} : DataW H → Nat
  | .lit (.string bytes) => bytes.length + 1
  | .lit _ => 1
  | .nil => 1
  | .ptr d => uptoBulk d + 1
  | .slice elems spare => uptoBulkAll elems + uptoBulkAll spare + 1
  | .agg parts => uptoBulkAll parts + 1
  | .iface _ d => uptoBulk d + 1
  | .map entries => uptoBulkEntries entries + 1
  | .held _ => 1
def uptoBulkAll {H : Type} : List (DataW H) → Nat
  | [] => 0
  | d :: r => uptoBulk d + uptoBulkAll r
def uptoBulkEntries {H : Type} : List (Lit × DataW H) → Nat
  | [] => 0
  | x :: r => uptoBulkEntry x + uptoBulkEntries r
def uptoBulkEntry {H : Type} : Lit × DataW H → Nat
  | (.string bytes, d) => bytes.length + uptoBulk d + 1
  | (_, d) => uptoBulk d + 1
 end
def uptoSmall : (H : Type) → List (DataW H) → Bool := fun _ ds => decide (uptoBulkAll ds ≤ 1048576)
def OpenSpec.upto (s : _root_.Go.ChangeSpec) : _root_.Go.OpenSpec := { _root_.Go.OpenSpec.ofChange s with cond := some uptoSmall }

/-- 'redpenlaw11.HtmlMade', WHERE WHAT IT READS IS OF BULK AT MOST 1048576: true; the input reads as it did. -/
def htmlMadeUptoRow : OpenClaim := { program := "ytodjfeheagnnpaadoor", sum := "70b7f3776638d4238c114cb724c830dbeb613084ca7ea8904885f3f3b2fbeec4", func := "redpen/redpenlaw11.HtmlMade", spec := "htmlMade", inPlace := ["internal/bytealg.IndexByte", "internal/bytealg.Index"], unfollowed := true, recurses := true, named := ["redpen/html.kinds", "internal/bytealg.MaxLen"], apart := false, laid := [("redpen/html.kinds", laid_redpen_html_kinds)], narrowed := true }
def HtmlMadeUptoSaid : Prop := htmlMadeUptoRow.holds Tryd.pinned (OpenSpec.upto htmlMadeSpec)

/-- 'redpenlaw12.MarkFences', WHERE WHAT IT READS IS OF BULK AT MOST 1048576: true; the input reads as it did. -/
def markFencesUptoRow : OpenClaim := { program := "ytodjfeheagnnpaadoor", sum := "70b7f3776638d4238c114cb724c830dbeb613084ca7ea8904885f3f3b2fbeec4", func := "redpen/redpenlaw12.MarkFences", spec := "markFences", inPlace := ["internal/bytealg.IndexByte", "internal/bytealg.IndexByteString", "internal/bytealg.Index", "internal/bytealg.IndexString"], unfollowed := true, recurses := true, named := ["unicode/utf8.first", "unicode/utf8.acceptRanges", "internal/bytealg.MaxLen"], apart := false, laid := [("unicode/utf8.acceptRanges", laid_unicode_utf8_acceptRanges), ("unicode/utf8.first", laid_unicode_utf8_first)], narrowed := true }
def MarkFencesUptoSaid : Prop := markFencesUptoRow.holds Tryd.pinned (OpenSpec.upto markFencesSpec)

/-- 'redpenlaw12.MarkSpans', WHERE WHAT IT READS IS OF BULK AT MOST 1048576: true; the input reads as it did. -/
def markSpansUptoRow : OpenClaim := { program := "ytodjfeheagnnpaadoor", sum := "70b7f3776638d4238c114cb724c830dbeb613084ca7ea8904885f3f3b2fbeec4", func := "redpen/redpenlaw12.MarkSpans", spec := "markSpans", inPlace := ["internal/bytealg.IndexByte", "internal/bytealg.IndexByteString", "internal/bytealg.Index", "internal/bytealg.IndexString"], unfollowed := true, recurses := true, named := ["unicode/utf8.first", "unicode/utf8.acceptRanges", "internal/bytealg.MaxLen"], apart := false, laid := [("unicode/utf8.acceptRanges", laid_unicode_utf8_acceptRanges), ("unicode/utf8.first", laid_unicode_utf8_first)], narrowed := true }
def MarkSpansUptoSaid : Prop := markSpansUptoRow.holds Tryd.pinned (OpenSpec.upto markSpansSpec)

/-- 'redpenlaw12.MarkFront', WHERE WHAT IT READS IS OF BULK AT MOST 1048576: true; the input reads as it did. -/
def markFrontUptoRow : OpenClaim := { program := "ytodjfeheagnnpaadoor", sum := "70b7f3776638d4238c114cb724c830dbeb613084ca7ea8904885f3f3b2fbeec4", func := "redpen/redpenlaw12.MarkFront", spec := "markFront", inPlace := ["internal/bytealg.IndexByte", "internal/bytealg.IndexByteString", "internal/bytealg.Index", "internal/bytealg.IndexString"], unfollowed := true, recurses := true, named := ["unicode/utf8.first", "unicode/utf8.acceptRanges", "internal/bytealg.MaxLen"], apart := false, laid := [("unicode/utf8.acceptRanges", laid_unicode_utf8_acceptRanges), ("unicode/utf8.first", laid_unicode_utf8_first)], narrowed := true }
def MarkFrontUptoSaid : Prop := markFrontUptoRow.holds Tryd.pinned (OpenSpec.upto markFrontSpec)

/-- 'redpenlaw12.MarkPlain', WHERE WHAT IT READS IS OF BULK AT MOST 1048576: true; the input reads as it did. -/
def markPlainUptoRow : OpenClaim := { program := "ytodjfeheagnnpaadoor", sum := "70b7f3776638d4238c114cb724c830dbeb613084ca7ea8904885f3f3b2fbeec4", func := "redpen/redpenlaw12.MarkPlain", spec := "markPlain", inPlace := ["internal/bytealg.IndexByte", "internal/bytealg.IndexByteString", "internal/bytealg.Index", "internal/bytealg.IndexString"], unfollowed := true, recurses := true, named := ["unicode/utf8.first", "unicode/utf8.acceptRanges", "internal/bytealg.MaxLen"], apart := false, laid := [("unicode/utf8.acceptRanges", laid_unicode_utf8_acceptRanges), ("unicode/utf8.first", laid_unicode_utf8_first)], narrowed := true }
def MarkPlainUptoSaid : Prop := markPlainUptoRow.holds Tryd.pinned (OpenSpec.upto markPlainSpec)

end Rows
end Go.Proofs.YtodjfeheagnnpaaDoor
