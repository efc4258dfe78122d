package tex

import (
	"bytes"
	"math/rand"
	"regexp"
	"slices"
	"strings"
	"testing"

	"redpen/api"
	"redpen/label"
	"redpen/span"
)

const top = api.MaxFile

// pictures are signs for the labels, by their numbers.
const pictures = "0.mrcq*w"

// picture has a sign for each byte's label: a dot for Prose, m for Markup, r for Remark, c for Code.
func picture(s *label.Sheet) string {
	var p strings.Builder
	for i := range s.Len() {
		p.WriteByte(pictures[s.At(i)])
	}
	return p.String()
}

// lexed is Lex's answer for bytes that aren't too many.
func lexed(t *testing.T, text string) *label.Sheet {
	t.Helper()
	b := []byte(text)
	s, e := Lex(b)
	if s == nil || e != api.OK {
		t.Fatalf("P13.1: Lex(%.200q): %v, %d", text, s, e)
	}
	if string(b) != text {
		t.Fatalf("R6: Lex(%.200q) changed the bytes", text)
	}
	if s.Len() != len(text) {
		t.Fatalf("P3: Lex(%.200q): %d bytes of %d", text, s.Len(), len(text))
	}
	return s
}

// hold holds Lex against a picture.
func hold(t *testing.T, text, want string) {
	t.Helper()
	s := lexed(t, text)
	if got := picture(s); got != want {
		t.Fatalf("P13.1: Lex(%.300q):\n%.300s, not\n%.300s", text, got, want)
	}
	lossless(t, s, text)
}

// lossless holds the parts of a sheet against its bytes.
func lossless(t *testing.T, s *label.Sheet, text string) {
	t.Helper()
	var spans []api.Span
	for _, g := range s.Segs() {
		spans = append(spans, g.Span)
		if g.Label < api.Prose || g.Label > api.Code {
			t.Fatalf("P3: Lex(%.200q): the label %d", text, g.Label)
		}
	}
	if !span.Cover(spans, len(text)) {
		t.Fatalf("P3: Lex(%.200q): the parts are not all of %d bytes, side by side", text, len(text))
	}
}

// A second reader: patterns for what begins at a place, the first that fits, and the sign of its label.
var rules = []struct {
	pattern *regexp.Regexp
	sign    string
}{
	{regexp.MustCompile(`\A%[^\n]*\n?`), "r"},
	{regexp.MustCompile(`(?s)\A\$\$(?:\\.|[^\\])*?(?:\$\$|\\?\z)`), "c"},
	{regexp.MustCompile(`(?s)\A\$(?:\\.|[^\\$])*(?:\$|\\?\z)`), "c"},
	{regexp.MustCompile(`\A[{}~&#^_]`), "m"},
	{regexp.MustCompile(`(?s)\A\\\(.*?(?:\\\)|\z)`), "c"},
	{regexp.MustCompile(`(?s)\A\\\[.*?(?:\\\]|\z)`), "c"},
	{regexp.MustCompile(`(?s)\A\\[^A-Za-z]?`), "m"},
	{regexp.MustCompile(`(?s)\A.`), "."},
}

var (
	commands = regexp.MustCompile(`\A\\[A-Za-z]+`)
	grouping = regexp.MustCompile(`\A\\(?:begin|bibliography|bibliographystyle|cite|documentclass|end|include|includegraphics|input|label|pageref|ref|usepackage)\z`)
	unreads  = regexp.MustCompile(`\A\{(align\*?|equation\*?|lstlisting|verbatim)\}`)
)

// drawn is the picture that Lex's answer must have.
func drawn(text string) string {
	var p strings.Builder
	for p.Len() < len(text) {
		rest := text[p.Len():]
		if command := commands.FindString(rest); command != "" {
			p.WriteString(commandDrawn(command, rest[len(command):]))
			continue
		}
		for _, r := range rules {
			if m := r.pattern.FindString(rest); m != "" {
				p.WriteString(strings.Repeat(r.sign, len(m)))
				break
			}
		}
	}
	return p.String()
}

// commandDrawn is the picture of a command and of what belongs to it of the text behind it.
func commandDrawn(command, text string) string {
	p := strings.Repeat("m", len(command))
	if command == `\verb` {
		return p + verbDrawn(text)
	}
	if !grouping.MatchString(command) {
		return p
	}
	behind := text
	for {
		n := grouped(behind)
		p += strings.Repeat("m", n)
		behind = behind[n:]
		if n == 0 {
			break
		}
	}
	m := unreads.FindStringSubmatch(text)
	if command != `\begin` || m == nil {
		return p
	}
	end := "\\end{" + m[1] + "}"
	code, _, ok := strings.Cut(behind, end)
	p += strings.Repeat("c", len(code))
	if ok {
		p += strings.Repeat("m", len(end))
	}
	return p
}

// verbDrawn is the picture of what belongs to the command verb of the text behind it.
func verbDrawn(text string) string {
	star := ""
	if rest, ok := strings.CutPrefix(text, "*"); ok {
		star, text = "m", rest
	}
	line := text
	if before, _, ok := strings.Cut(text, "\n"); ok {
		line = before + "\n"
	}
	if line == "" || line == "\n" {
		return star
	}
	inner, _, ok := strings.Cut(line[1:], line[:1])
	if !ok {
		return star + strings.Repeat("c", len(line))
	}
	return star + strings.Repeat("c", len(inner)+2)
}

// grouped is how many bytes the group has with which a text begins; 0, if it begins with none.
func grouped(text string) int {
	// What a backslash takes along is blotted out first, byte by byte.
	plain := []byte(text)
	for i := 0; i < len(plain); i++ {
		if plain[i] == '\\' {
			i++
			if i < len(plain) {
				plain[i] = '.'
			}
		}
	}
	open, shut := byte('{'), byte('}')
	if strings.HasPrefix(text, "[") {
		open, shut = '[', ']'
	}
	var opened []int
	for i, c := range plain {
		if c == open {
			opened = append(opened, i)
		}
		if len(opened) == 0 || len(opened) > 32 {
			return 0
		}
		if c == shut {
			opened = opened[1:]
		}
		if len(opened) == 0 {
			return i + 1
		}
	}
	return 0
}

// holdBoth holds Lex, and the second reader, against a picture.
func holdBoth(t *testing.T, text, want string) {
	t.Helper()
	if len(text) != len(want) {
		t.Fatalf("%q has %d bytes, its picture %d: %s", text, len(text), len(want), want)
	}
	hold(t, text, want)
	if got := drawn(text); got != want {
		t.Fatalf("the second reader's picture of %.300q: %.300s, not %.300s", text, got, want)
	}
}

// holdAll holds texts against their pictures, with other things ahead of them, and behind those that are shut.
func holdAll(t *testing.T, l [][2]string) {
	t.Helper()
	for _, c := range l {
		holdBoth(t, c[0], c[1])
		for _, ahead := range [][2]string{{"a", "."}, {"\n", "."}, {"}\\\\ ", "mmm."}, {"$b$", "ccc"}, {"%c\n", "rrr"}, {"\\(d\\)", "ccccc"}, {"\u00e4", ".."}, {"\\verb|e|", "mmmmmccc"}, {"\\ref{f}.", "mmmmmmm."}} {
			holdBoth(t, ahead[0]+c[0], ahead[1]+c[1])
		}
	}
}

// holdShut holds texts that end by themselves: what stands behind them is what it is.
func holdShut(t *testing.T, l [][2]string) {
	t.Helper()
	holdAll(t, l)
	for _, c := range l {
		for _, behind := range [][2]string{{" a", ".."}, {"\n", "."}, {"}", "m"}, {"\\\\", "mm"}, {"%b", "rr"}, {"!$c$", ".ccc"}, {"\\emph{d}", "mmmmmm.m"}, {"\\(e", "ccc"}, {"\xff", "."}} {
			holdBoth(t, c[0]+behind[0], c[1]+behind[1])
		}
	}
}

func TestExample(t *testing.T) {
	text := "a $b$ \\emph{c} % d"
	want := []api.Seg{
		{Label: api.Prose, Span: api.Span{At: 0, Len: 2}},
		{Label: api.Code, Span: api.Span{At: 2, Len: 3}},
		{Label: api.Prose, Span: api.Span{At: 5, Len: 1}},
		{Label: api.Markup, Span: api.Span{At: 6, Len: 6}},
		{Label: api.Prose, Span: api.Span{At: 12, Len: 1}},
		{Label: api.Markup, Span: api.Span{At: 13, Len: 1}},
		{Label: api.Prose, Span: api.Span{At: 14, Len: 1}},
		{Label: api.Remark, Span: api.Span{At: 15, Len: 3}},
	}
	if got := lexed(t, text).Segs(); !slices.Equal(got, want) {
		t.Errorf("P13.1: Lex(%q): %v, not %v", text, got, want)
	}
	holdBoth(t, text, "..ccc.mmmmmm.m.rrr")
}

func TestRemarks(t *testing.T) {
	holdAll(t, [][2]string{
		{"%", "r"},
		{"%a", "rr"},
		{"%\n", "rr"},
		{"%a\n", "rrr"},
		{"%a\r\n", "rrrr"},
		{"%a\r", "rrr"},
		{"%a\rb", "rrrr"},
		{"%a\nb", "rrr."},
		{"%\n\n", "rr."},
		{"%a%b\n%c\nd", "rrrrrrrr."},
		{"a%b\nc%d", ".rrr.rr"},
		{"%$\n$a$", "rrrccc"},
		{"%\\\na", "rrr."},
		{"%\\\\\na", "rrrr."},
		{"%\\begin{verbatim}\na", strings.Repeat("r", 18) + "."},
		{"%\\verb|\na|", "rrrrrrrr.."},
		{"%{\n}", "rrrm"},
		{"%\u00e4\xff\x00\nb", "rrrrrr."},
		{"%\v\f\u2028b", "rrrrrrr"},
		{"\\%a", "mm."},
		{"\\\\%a", "mmrr"},
		{"\\\\\\%a", "mmmm."},
		{"\\a%b", "mmrr"},
		{"\\emph%a\n{b}", "mmmmmrrrm.m"},
		{"\\cite%a\n{b}", "mmmmmrrrm.m"},
	})
}

func TestMath(t *testing.T) {
	holdShut(t, [][2]string{
		{"$a$", "ccc"},
		{"$a\\$b$", "cccccc"},
		{"$\\\\$", "cccc"},
		{"$\\\\\\$a$", "ccccccc"},
		{"$a\nb\n\nc$", "cccccccc"},
		{"$%$", "ccc"},
		{"$%\n$", "cccc"},
		{"${$", "ccc"},
		{"$\\cite{$", "cccccccc"},
		{"$\\verb|$", "cccccccc"},
		{"$\\begin{verbatim}$", strings.Repeat("c", 18)},
		{"$\\($", "cccc"},
		{"$\\[a\\]$", "ccccccc"},
		{"$\u00e4\xff\x00$", "cccccc"},
		{"$\\\u00e4$", "ccccc"},
		{"$\\\xff$", "cccc"},
		{"$a$b$c$", "ccc.ccc"},
		{"$a$$b$", "cccccc"},
		{"$$$$", "cccc"},
		{"$$a$$", "ccccc"},
		{"$$a$b$$", "ccccccc"},
		{"$$a$ $b$$", "ccccccccc"},
		{"$$a\\$$b$$", "ccccccccc"},
		{"$$\\$$$", "cccccc"},
		{"$$\\\\$$", "cccccc"},
		{"$$a$\\$$$", "cccccccc"},
		{"$$a\n\nb$$", "cccccccc"},
		{"$$a$$$b$", "cccccccc"},
		{"$$a$$$$b$$", "cccccccccc"},
	})
	holdAll(t, [][2]string{
		{"$", "c"},
		{"$a", "cc"},
		{"$a\n%\\cite{b} c", "cccccccccccccc"},
		{"$\\", "cc"},
		{"$\\$", "ccc"},
		{"$a\\", "ccc"},
		{"$a\\$", "cccc"},
		{"$a\\$b", "ccccc"},
		{"$$", "cc"},
		{"$$$", "ccc"},
		{"$$a", "ccc"},
		{"$$a$", "cccc"},
		{"$$a$b", "ccccc"},
		{"$$a\\$$", "cccccc"},
		{"$$a$\\$", "cccccc"},
		{"$$\\", "ccc"},
		{"$$\\$", "cccc"},
		{"$$\\$$b", "cccccc"},
		{"$$$$$", "ccccc"},
		{"$a$$", "cccc"},
		{"$a$$b", "ccccc"},
		{"\\$a$b", "mm.cc"},
		{"\\$$a$b", "mmccc."},
		{"\\\\$a$b", "mmccc."},
		{"\\a$b$c", "mmccc."},
	})
}

func TestSignsOfMarkup(t *testing.T) {
	holdShut(t, [][2]string{
		{"{}", "mm"},
		{"}{", "mm"},
		{"{a}", "m.m"},
		{"{{a}", "mm.m"},
		{"a~b", ".m."},
		{"a&b", ".m."},
		{"a#1", ".m."},
		{"a^b_c", ".m.m."},
		{"~~&&##^^__{{}}", "mmmmmmmmmmmmmm"},
		{"[a]", "..."},
		{"[", "."},
		{"]", "."},
		{"()", ".."},
		{"a*b", "..."},
		{"\"a\"'`@|<>+-=/:;,.?!", strings.Repeat(".", 19)},
		{"{$a$}", "mcccm"},
		{"{%a\n}", "mrrrm"},
		{"\u00e4{\u00e4}", "..m..m"},
	})
}

func TestCommands(t *testing.T) {
	holdShut(t, [][2]string{
		{"\\a b", "mm.."},
		{"\\abc.", "mmmm."},
		{"\\aZz1", "mmmm."},
		{"\\Az-", "mmm."},
		{"\\a*", "mm."},
		{"\\a@b", "mm.."},
		{"\\a\u00e4", "mm.."},
		{"\\a\xff", "mm."},
		{"\\a\x00", "mm."},
		{"\\a\\b1", "mmmm."},
		{"\\a\\\\b", "mmmm."},
		{"\\a{b}", "mmm.m"},
		{"\\a[b]{c}", "mm...m.m"},
		{"\\emph{a}", "mmmmmm.m"},
		{"\\section*{a}", "mmmmmmmm.m.m"},
		{"\\Verb|a|", "mmmmm..."},
		{"\\VERB|a|", "mmmmm..."},
		{"\\verbatim|a|", "mmmmmmmmm..."},
		{"\\ver|a|", "mmmm..."},
		{"\\averb|a|", "mmmmmm..."},
		{"\\footnote{\\emph{a} b}", "mmmmmmmmmmmmmmmm.m..m"},
	})
	holdAll(t, [][2]string{
		{"\\a", "mm"},
		{"\\abc", "mmmm"},
		{"\\a\\b", "mmmm"},
		{"\\verb", "mmmmm"},
		{"\\cite", "mmmmm"},
		{"\\begin", "mmmmmm"},
		{"\\end", "mmmm"},
	})
}

func TestVerb(t *testing.T) {
	holdShut(t, [][2]string{
		{"\\verb|a|", "mmmmmccc"},
		{"\\verb||", "mmmmmcc"},
		{"\\verb|||", "mmmmmcc."},
		{"\\verb|a|b|", "mmmmmccc.."},
		{"\\verb+a|b+", "mmmmmccccc"},
		{"\\verb*|a|", "mmmmmmccc"},
		{"\\verb***", "mmmmmmcc"},
		{"\\verb**a*", "mmmmmmccc"},
		{"\\verb**a*b*", "mmmmmmccc.."},
		{"\\verb|*|", "mmmmmccc"},
		{"\\verb|\\|", "mmmmmccc"},
		{"\\verb\\a\\", "mmmmmccc"},
		{"\\verb\\\\", "mmmmmcc"},
		{"\\verb\\\\cite1{a}", "mmmmmcc.....m.m"},
		{"\\verb a ", "mmmmmccc"},
		{"\\verb* a ", "mmmmmmccc"},
		{"\\verb\ta\t", "mmmmmccc"},
		{"\\verb1a1", "mmmmmccc"},
		{"\\verb{a{", "mmmmmccc"},
		{"\\verb[a[", "mmmmmccc"},
		{"\\verb%a%", "mmmmmccc"},
		{"\\verb$a$", "mmmmmccc"},
		{"\\verb$a%{$", "mmmmmccccc"},
		{"\\verb|%|", "mmmmmccc"},
		{"\\verb|\\begin{verbatim}|", "mmmmm" + strings.Repeat("c", 18)},
		{"\\verb\x00a\x00", "mmmmmccc"},
		{"\\verb\xffa\xff", "mmmmmccc"},
		// It is the byte that comes again, not the sign.
		{"\\verb\u00e4a\u00e4", "mmmmmcccc."},
		{"\\verb\u00e4\u00e9", "mmmmmccc."},
		{"\\verb\rab\r", "mmmmmcccc"},
		{"\\verb*\rab\r", "mmmmmmcccc"},
		// None follows on the line.
		{"\\verb|\n", "mmmmmcc"},
		{"\\verb|a\n", "mmmmmccc"},
		{"\\verb|a\nb|", "mmmmmccc.."},
		{"\\verb*|a\nb|", "mmmmmmccc.."},
		{"\\verb**\n", "mmmmmmcc"},
		{"\\verb**\n*", "mmmmmmcc."},
		{"\\verb|a\r\nb", "mmmmmcccc."},
		{"\\verb\r\nb", "mmmmmcc."},
		{"\\verb{a}\n", "mmmmmcccc"},
		{"\\verb\\a\n", "mmmmmccc"},
		{"\\verb|a\n\n|", "mmmmmccc.."},
		{"\\verb|$a%\n$b$", "mmmmmcccccccc"},
		// No byte follows but a newline.
		{"\\verb\n|a|", "mmmmm...."},
		{"\\verb*\n|a|", "mmmmmm...."},
		{"\\verb\n\na", "mmmmm..."},
		{"\\verb\n*a*", "mmmmm...."},
	})
	holdAll(t, [][2]string{
		{"\\verb", "mmmmm"},
		{"\\verb*", "mmmmmm"},
		{"\\verb**", "mmmmmmc"},
		{"\\verb|", "mmmmmc"},
		{"\\verb*|", "mmmmmmc"},
		{"\\verb|ab", "mmmmmccc"},
		{"\\verb\n", "mmmmm."},
		{"\\verb*\n", "mmmmmm."},
		{"\\verb\\", "mmmmmc"},
		{"\\verb\\verb|a|", "mmmmmcccccccc"},
		{"\\verb|a|\\verb|b|", "mmmmmcccmmmmmccc"},
		{"\\verb|a\n\\verb|b|", "mmmmmcccmmmmmccc"},
		{"\\verb\n\\verb|b|", "mmmmm.mmmmmccc"},
	})
}

// groupers are the commands whose groups are not read.
var groupers = []string{"begin", "bibliography", "bibliographystyle", "cite", "documentclass", "end", "include", "includegraphics", "input", "label", "pageref", "ref", "usepackage"}

func TestEachCommandWithGroups(t *testing.T) {
	m := func(text string) string { return strings.Repeat("m", len(text)) }
	for _, name := range groupers {
		c := "\\" + name
		holdShut(t, [][2]string{
			{c + "{a b}", m(c + "{a b}")},
			{c + "[a]{b}[c] d", m(c+"[a]{b}[c]") + ".."},
			{c + "{a\n\n%b$}", m(c + "{a\n\n%b$}")},
			{c + " {a}", m(c) + ".m.m"},
			{c + "\n{a}", m(c) + ".m.m"},
			{c + "*{a}", m(c) + ".m.m"},
			{c + "a{b}", m(c) + "mm.m"},
			{c + "1{b}", m(c) + ".m.m"},
			{c + "\u00e4{b}", m(c) + "..m.m"},
			{strings.ToUpper(c) + "{b}", m(c) + "m.m"},
			{c[:len(c)-1] + "{b}", m(c) + ".m"},
			{"\\x" + name + "{b}", m(c) + "mm.m"},
		})
	}
	// Begin and end of a name are other ones' names.
	holdShut(t, [][2]string{
		{"\\includeonly{a}", "mmmmmmmmmmmmm.m"},
		{"\\citep{a}", "mmmmmmm.m"},
		{"\\eqref{a}", "mmmmmmm.m"},
		{"\\refs{a}", "mmmmmm.m"},
		{"\\bib{a}", "mmmmm.m"},
		{"\\page{a}", "mmmmmm.m"},
		{"\\graphics{a}", "mmmmmmmmmm.m"},
		{"\\emph{a}", "mmmmmm.m"},
		{"\\url{a}", "mmmmm.m"},
		{"\\href{a}{b}", "mmmmmm.mm.m"},
		{"\\Cite{a}", "mmmmmm.m"},
		{"\\citE{a}", "mmmmmm.m"},
	})
}

func TestGroups(t *testing.T) {
	holdShut(t, [][2]string{
		{"\\ref{}", "mmmmmm"},
		{"\\ref[]", "mmmmmm"},
		{"\\ref{}[]{}", "mmmmmmmmmm"},
		{"\\ref{a}{b}[c][d]{e}", "mmmmmmmmmmmmmmmmmmm"},
		{"\\ref{a} {b}", "mmmmmmm.m.m"},
		{"\\ref{a}\n[b]", "mmmmmmm...."},
		{"\\ref{a}.{b}", "mmmmmmm.m.m"},
		{"\\ref{{a}b}", "mmmmmmmmmm"},
		{"\\ref{{}{}}c", "mmmmmmmmmm."},
		{"\\ref{{{}}}c", "mmmmmmmmmm."},
		{"\\ref[[a]b]", "mmmmmmmmmm"},
		{"\\ref{a}}", "mmmmmmmm"},
		{"\\ref[a]].", "mmmmmmm.."},
		// Brackets of the other kind don't count.
		{"\\ref{[}", "mmmmmmm"},
		{"\\ref{]}", "mmmmmmm"},
		{"\\ref[{].", "mmmmmmm."},
		{"\\ref[}].", "mmmmmmm."},
		{"\\ref{[a}b].", "mmmmmmmm..."},
		{"\\ref[{a]b}.", "mmmmmmmm.m."},
		{"\\ref[(a)]", "mmmmmmmmm"},
		{"\\ref(a)", "mmmm..."},
		{"\\ref<a>", "mmmm..."},
		// A backslash takes the next byte along.
		{"\\ref{\\}}", "mmmmmmmm"},
		{"\\ref{\\{}", "mmmmmmmm"},
		{"\\ref{\\\\}", "mmmmmmmm"},
		{"\\ref{\\\\\\}}", "mmmmmmmmmm"},
		{"\\ref{\\\\{}}", "mmmmmmmmmm"},
		{"\\ref[\\]]", "mmmmmmmm"},
		{"\\ref[\\[]", "mmmmmmmm"},
		{"\\ref{a\\}b}c", "mmmmmmmmmm."},
		{"\\ref{\\\u00e4}", "mmmmmmmmm"},
		{"\\ref{\\\xff}", "mmmmmmmm"},
		{"\\ref{\\a{b}}", "mmmmmmmmmmm"},
		// Nothing else is read in it.
		{"\\ref{%}", "mmmmmmm"},
		{"\\ref{$}", "mmmmmmm"},
		{"\\ref{\\verb|}|", "mmmmmmmmmmmm."},
		{"\\ref{\\begin{verbatim}}", strings.Repeat("m", 22)},
		{"\\ref{\\(}", "mmmmmmmm"},
		{"\\ref{\u00e4\xff\x00\n}", "mmmmmmmmmmm"},
		// One that doesn't come ends the row.
		{"\\ref{a}[b", "mmmmmmm.."},
		{"\\ref[a{b}", "mmmm..m.m"},
		{"\\ref]", "mmmm."},
		{"\\ref]{a}", "mmmm.m.m"},
		{"\\ref}{a}", "mmmmmm.m"},
		{"\\ref\\ref{a}", "mmmmmmmmmmm"},
		{"\\ref{a}\\ref{b}", "mmmmmmmmmmmmmm"},
		{"\\ref\\\\{a}", "mmmmmmm.m"},
	})
	holdAll(t, [][2]string{
		{"\\ref{", "mmmmm"},
		{"\\ref[", "mmmm."},
		{"\\ref{a", "mmmmm."},
		{"\\ref{a\\}", "mmmmm.mm"},
		{"\\ref{\\", "mmmmmm"},
		{"\\ref[\\", "mmmm.m"},
		{"\\ref{{}", "mmmmmmm"},
		{"\\ref{{a}", "mmmmmm.m"},
		{"\\ref[[a]", "mmmm...."},
		{"\\ref[a]{b", "mmmmmmmm."},
		{"\\ref{a]", "mmmmm.."},
		{"\\ref[a}", "mmmm..m"},
		{"\\ref[a\\]", "mmmm..mm"},
		{"\\ref{$a$", "mmmmmccc"},
		{"\\ref{%a}", "mmmmmmmm"},
		{"\\ref{%a", "mmmmmrr"},
		{"\\ref{\\ref{a}", "mmmmmmmmmmmm"},
		{"\\ref[\\ref[a]", "mmmm.mmmmmmm"},
	})
}

// nested has brackets n deep, with a letter within.
func nested(open, shut string, n int) string {
	return strings.Repeat(open, n) + "a" + strings.Repeat(shut, n)
}

func TestNesting(t *testing.T) {
	m := func(n int) string { return strings.Repeat("m", n) }
	dots := func(n int) string { return strings.Repeat(".", n) }
	for n := 1; n <= api.MaxNest; n++ {
		holdShut(t, [][2]string{
			{"\\ref" + nested("{", "}", n), m(4 + 2*n + 1)},
			{"\\ref" + nested("[", "]", n), m(4 + 2*n + 1)},
			{"\\ref" + nested("{", "}", n) + nested("[", "]", n), m(4 + 4*n + 2)},
		})
	}
	for _, n := range []int{33, 34, 64, 65, 100} {
		holdShut(t, [][2]string{
			{"\\ref" + nested("{", "}", n), m(4+n) + "." + m(n)},
			{"\\ref" + nested("[", "]", n), m(4) + dots(2*n+1)},
			{"\\ref[b]" + nested("{", "}", n), m(7+n) + "." + m(n)},
			{"\\ref{b}" + nested("[", "]", n), m(7) + dots(2*n+1)},
		})
	}
	deepest, deeper := nested("{", "}", 32), nested("{", "}", 33)
	holdShut(t, [][2]string{
		// The other kind's brackets don't count, taken ones neither.
		{"\\ref[" + deeper + "]", m(4 + 2 + 67)},
		{"\\ref{" + nested("[", "]", 40) + "}", m(4 + 2 + 81)},
		{"\\ref{" + strings.Repeat("\\{", 99) + "}", m(4 + 2 + 198)},
		{"\\ref{" + strings.Repeat("{}", 99) + "}", m(4 + 2 + 198)},
		{"\\ref{" + strings.Repeat(nested("{", "}", 31), 9) + "}", m(4 + 2 + 9*63)},
		{"\\ref{" + strings.Repeat(nested("{", "}", 31), 9) + deepest + "}", m(5) + strings.Repeat(m(31)+"."+m(31), 9) + m(32) + "." + m(33)},
		// Behind the group's end they may be as deep as they like.
		{"\\ref{a}b" + deeper, m(7) + "." + m(33) + "." + m(33)},
		{"\\ref{a}" + deeper, m(7) + m(33) + "." + m(33)},
		// The name of a group that is too deep is none.
		{"\\begin" + deeper, m(6) + m(33) + "." + m(33)},
	})
	holdAll(t, [][2]string{
		{"\\ref" + strings.Repeat("{", 32), m(36)},
		{"\\ref" + strings.Repeat("{", 33), m(37)},
		{"\\ref" + strings.Repeat("[", 33), m(4) + dots(33)},
		{"\\ref" + strings.Repeat("{", 33) + strings.Repeat("}", 32), m(69)},
	})
}

// unread are the names of what isn't read up to its end.
var unread = []string{"align", "align*", "equation", "equation*", "lstlisting", "verbatim"}

func TestUnread(t *testing.T) {
	m := func(text string) string { return strings.Repeat("m", len(text)) }
	c := func(text string) string { return strings.Repeat("c", len(text)) }
	for _, name := range unread {
		begin, end := "\\begin{"+name+"}", "\\end{"+name+"}"
		for _, in := range []string{"", "a", "\na b\n", "%", "%a\n", "$", "$$", "\\", "\\\\", "\\verb|", "\\verb|a\nb", "\\(", "\\[", "}", "\\begin", begin, "\\end{", "\\end", "\\end{a}", "\\end {" + name + "}", "\\end{" + name + " }", "\\end{" + name + "s}", "\\end{ " + name + "}", "\\End{" + name + "}", "end{" + name + "}", "\\end{" + strings.ToUpper(name) + "}", "\\end{" + name, " {a", " [a", " [a]", ".{b}", "\u00e4", "\xff", "\x00", "\\ref", "\\\\\\"} {
			holdShut(t, [][2]string{
				{begin + in + end, m(begin) + c(in) + m(end)},
				{begin + "[a b]" + in + end, m(begin+"[a b]") + c(in) + m(end)},
				{begin + "{a b}[c]{d}" + in + end, m(begin+"{a b}[c]{d}") + c(in) + m(end)},
				{begin + in + end + "$x$", m(begin) + c(in) + m(end) + "ccc"},
				{begin + in + end + begin + in + end, m(begin) + c(in) + m(end+begin) + c(in) + m(end)},
				{begin + in + end + "}" + end, m(begin) + c(in) + m(end+"}"+end)},
			})
			holdAll(t, [][2]string{
				{begin + in, m(begin) + c(in)},
				{begin + "[a]" + in, m(begin+"[a]") + c(in)},
				{begin + in + "$b$%c\n{\\emph{d}", m(begin) + c(in+"$b$%c\n{\\emph{d}")},
			})
		}
		holdShut(t, [][2]string{
			// The groups go on ahead of what isn't read: an end in them is none.
			{begin + "[" + end + "]a" + end, m(begin+"["+end+"]") + "c" + m(end)},
			{begin + "[a" + end, m(begin) + "cc" + m(end)},
			{begin + "{}" + end, m(begin + "{}" + end)},
			// What else stands right behind the end is read again.
			{begin + end + "a[b]", m(begin+end) + "...."},
			{begin + end + "{b}", m(begin+end) + "m.m"},
			{begin + end + "[b]", m(begin+end) + "..."},
			// Not the name, or not a begin.
			{"\\begin{" + name + " }a" + "$x$", m("\\begin{"+name+" }") + ".ccc"},
			{"\\begin{ " + name + "}a" + "$x$", m("\\begin{ "+name+"}") + ".ccc"},
			{"\\begin{" + name + "s}a" + "$x$", m("\\begin{"+name+"s}") + ".ccc"},
			{"\\begin{a" + name + "}a" + "$x$", m("\\begin{a"+name+"}") + ".ccc"},
			{"\\begin{{" + name + "}}a" + "$x$", m("\\begin{{"+name+"}}") + ".ccc"},
			{"\\begin{" + strings.ToUpper(name) + "}a" + "$x$", m("\\begin{"+name+"}") + ".ccc"},
			{"\\begin{" + name[:4] + "}a", m("\\begin{"+name[:4]+"}") + "."},
			{"\\begin{}a", m("\\begin{}") + "."},
			{"\\begin[" + name + "]a" + "$x$", m("\\begin["+name+"]") + ".ccc"},
			{"\\begin[]{" + name + "}a" + "$x$", m("\\begin[]{"+name+"}") + ".ccc"},
			{"\\begin{x}{" + name + "}a" + "$x$", m("\\begin{x}{"+name+"}") + ".ccc"},
			{"\\begin {" + name + "}1", m("\\begin") + ".m" + strings.Repeat(".", len(name)) + "m."},
			{"\\begins{" + name + "}1", m("\\beginsm") + strings.Repeat(".", len(name)) + "m."},
			{"\\Begin{" + name + "}1", m("\\Beginm") + strings.Repeat(".", len(name)) + "m."},
			{"\\end{" + name + "}a$x$", m(end) + ".ccc"},
			{"\\ref{" + name + "}a$x$", m("\\ref{"+name+"}") + ".ccc"},
			{"\\\\begin{" + name + "}1", "mm.....m" + strings.Repeat(".", len(name)) + "m."},
		})
		holdAll(t, [][2]string{
			{begin + "{a" + end, m(begin) + "cc" + m(end)},
			{begin + "{a" + end + "$x$", m(begin) + "cc" + m(end) + "ccc"},
			{begin + "{a" + end + "}b", m(begin+"{a"+end+"}") + "c"},
			{begin + "[a" + end + "]b" + end, m(begin+"[a"+end+"]") + "c" + m(end)},
		})
		for _, other := range unread {
			if other != name {
				in := "\\end{" + other + "}" + "\\begin{" + other + "}"
				holdShut(t, [][2]string{{begin + in + end, m(begin) + c(in) + m(end)}})
			}
		}
	}
	for _, name := range []string{"document", "itemize", "figure*", "verbatim*", "lstlisting*", "gather", "math", "equation**", "align\\*", "comment", "aligned", "\xff"} {
		holdShut(t, [][2]string{{"\\begin{" + name + "}a %b\n$c$", m("\\begin{"+name+"}") + "..rrrccc"}})
	}
	// Without the bracket that ends it there is no group.
	holdAll(t, [][2]string{
		{"\\begin{verbatim", "mmmmmmm........"},
		{"\\begin{verbatim$a$", "mmmmmmm........ccc"},
		{"\\begin{verbatim\\}$a$", "mmmmmmm........mmccc"},
	})
}

func TestFormulas(t *testing.T) {
	holdShut(t, [][2]string{
		{"\\(\\)", "cccc"},
		{"\\[\\]", "cccc"},
		{"\\(a\\)", "ccccc"},
		{"\\[a\\]", "ccccc"},
		{"\\(a\nb\n\nc\\)", "cccccccccc"},
		{"\\(\\]\\)", "cccccc"},
		{"\\[\\)\\]", "cccccc"},
		{"\\(\\(\\)", "cccccc"},
		{"\\[\\[\\]", "cccccc"},
		{"\\(a)\\)", "cccccc"},
		{"\\[a]\\]", "cccccc"},
		{"\\($\\)", "ccccc"},
		{"\\(%\\)", "ccccc"},
		{"\\(%\n\\)", "cccccc"},
		{"\\({\\)", "ccccc"},
		{"\\(\\verb|\\)", "cccccccccc"},
		{"\\[\\cite{\\]", "cccccccccc"},
		{"\\(\u00e4\xff\x00\\)", "cccccccc"},
		// No backslash takes another one along here.
		{"\\(\\\\)", "ccccc"},
		{"\\[\\\\]", "ccccc"},
		{"\\(a\\)b\\(c\\)", "ccccc.ccccc"},
		{"\\(a\\)\\[c\\]", "cccccccccc"},
		{"\\(a\\)\\)", "cccccmm"},
		{"\\)", "mm"},
		{"\\]", "mm"},
		{"\\\\(a", "mm.."},
		{"\\\\[a]", "mm..."},
		{"\\\\\\(a\\)", "mmccccc"},
		{"\\a\\(b\\)", "mmccccc"},
		{"\\a(b", "mm.."},
		{"\\a[b", "mm.."},
	})
	holdAll(t, [][2]string{
		{"\\(", "cc"},
		{"\\[", "cc"},
		{"\\(a", "ccc"},
		{"\\[a", "ccc"},
		{"\\(\\", "ccc"},
		{"\\[\\", "ccc"},
		{"\\(a)", "cccc"},
		{"\\[a]", "cccc"},
		{"\\(a\\]", "ccccc"},
		{"\\[a\\)", "ccccc"},
		{"\\(a\n%b\n{c}$d$", "ccccccccccccc"},
		{"\\(\\ )", "ccccc"},
	})
}

func TestBackslashAndAnotherSign(t *testing.T) {
	for c := range 128 {
		s := string([]byte{byte(c)})
		if strings.Contains("([", s) || c >= 'a' && c <= 'z' || c >= 'A' && c <= 'Z' {
			continue
		}
		holdShut(t, [][2]string{
			{"\\" + s, "mm"},
			{"\\" + s + "a", "mm."},
			{"\\" + s + "\\" + s + "a", "mmmm."},
		})
	}
	holdShut(t, [][2]string{
		{"\\\u0080a", "mmm."},
		{"\\\u00e4a", "mmm."},
		{"\\\u07ff\u07ff", "mmm.."},
		{"\\\u0800a", "mmmm."},
		{"\\\u20aca", "mmmm."},
		{"\\\ufffda", "mmmm."},
		{"\\\uffffa", "mmmm."},
		{"\\\U00010000a", "mmmmm."},
		{"\\\U0010ffffa", "mmmmm."},
		{"\\a\u0301", "mm.."},
		{"\\\u0301a", "mmm."},
		{"\\\u00e4{b}", "mmmm.m"},
		// Letters beyond ASCII make no command.
		{"\\\u00e9cite{a}", "mmm....m.m"},
		{"\\\u0391a", "mmm."},
		{"\\\u212aa", "mmmm."},
		{"\\\u017fa", "mmm."},
		// A byte that begins no sign stands for itself.
		{"\\\xffa", "mm."},
		{"\\\x80a", "mm."},
		{"\\\xc3a", "mm."},
		{"\\\xc3\xc3\xa4", "mm.."},
		{"\\\xe2\x82a", "mm.."},
		{"\\\xf0\x9f\x98a", "mm..."},
		{"\\\xed\xa0\x80a", "mm..."},
		{"\\\xc0\x80a", "mm.."},
		{"\\\xc1\xbfa", "mm.."},
		{"\\\xe0\x80\x80a", "mm..."},
		{"\\\xf4\x90\x80\x80a", "mm...."},
		{"\\\xf0\x80\x80\x80a", "mm...."},
		{"\\\xc3\\(a\\)", "mmccccc"},
		{"\\\xc3{a}", "mmm.m"},
	})
	holdAll(t, [][2]string{
		{"\\", "m"},
		{"\\\\", "mm"},
		{"\\\\\\", "mmm"},
		{"\\\xc3", "mm"},
		{"\\\xe2\x82", "mm."},
		{"a\\", ".m"},
		{"{\\", "mm"},
		{"\\1\\", "mmm"},
		{"\\a\\", "mmm"},
		{"\\\n\\", "mmm"},
		{"\\\r\n", "mm."},
		{"\\\n\n", "mm."},
		{"\\\nverb|a|", "mm......."},
		{"\\ verb|a|", "mm......."},
	})
}

// each puts together all texts of at most n of some pieces.
func each(n int, pieces []string, do func(text string)) {
	var grow func(text string, n int)
	grow = func(text string, n int) {
		do(text)
		if n == 0 {
			return
		}
		for _, p := range pieces {
			grow(text+p, n-1)
		}
	}
	grow("", n)
}

func TestAllSmallTexts(t *testing.T) {
	both := func(text string) {
		hold(t, text, drawn(text))
	}
	each(7, strings.Split("$|\\|a|%|\n", "|"), both)
	each(7, strings.Split("\\|(|)|[|]", "|"), both)
	each(6, strings.Split("\\ref|{|}|[|]|\\", "|"), both)
	each(6, strings.Split("\\verb,*,|,+,\n,\\", ","), both)
	each(5, strings.Split("\\begin|{verbatim}|{align}|[|]|{|\\end|\\", "|"), both)
	each(5, strings.Split("\\begin{align}|\\end{align}|\\begin{align*}|\\end{align*}|[a]|$|%|\n", "|"), both)
	each(4, strings.Split("%,$,{,},~,\\,a,\\(,\\),\\[,\\],\\verb,*,\n,\\cite,[,],\u00e4,\xc3,\xa4", ","), both)
}

func TestEveryByteInEveryRole(t *testing.T) {
	shapes := []string{
		"@", "@@", "a@b", "@a$", "@a\n$b$", "@{a}", "@ref{a}", "@(a\\)b", "@[a\\]b",
		"%@a\nb", "%a@b", "%@\nb", "$@a$b", "$a@b", "$a\\@b$c", "$@$b", "$a$@b$", "$$@$$b", "$$a$@$b$$", "$$a\\@$b$$c", "$@a$$b", "$a@$b", "$$a@$$b$c",
		"\\@", "\\@a", "\\@@a", "\\a@b", "\\@a{b}", "\\ref@{a}", "\\ref@a}", "\\ref{@}", "\\ref{a@b}", "\\ref{a\\@b}c}", "\\ref[a@b]", "\\ref[a\\@b]c]", "\\ref{a@", "\\ref[a@", "\\ref{a}@b}c]", "\\ref{a}@{b}", "\\re@{a}", "\\@ref{a}", "\\ref{a@{b}c}d", "\\ref[a@[b]c]d",
		"\\verb@a", "\\verb@@a", "\\verb@a@b", "\\verb@a@b@c", "\\verb*@a@b", "\\verb@|a|", "\\verb|@|", "\\verb|a@b|c", "\\verb|a@", "\\verb|a\n@|", "\\ver@|a|", "\\verb*@|a|", "\\verb@", "\\verb*@", "\\verb\\@a", "\\verb\\@\\a",
		"\\begin{verbatim@a\\end{verbatim}b", "\\begin{verbatim}@\\end{verbatim}b", "\\begin{verbatim}@a\\end{verbatim}b", "\\begin{verbatim}a@end{verbatim}b", "\\begin{verbatim}a\\end@verbatim}b", "\\begin{verbatim}a\\end{verbatim@b", "\\begin{verbatim}a\\end{verbatim}@b", "\\begin{verbatim}a\\end{verbatim}@b}", "\\begin@verbatim}a\\end{verbatim}b", "\\begin{@}a$b$", "\\begin{align@}a$b$c\\end{align@}d", "\\begin{align@}a$b$c\\end{align*}d", "\\begin{@align}a$b$", "\\begin@{align}a$b$", "\\@egin{align}a$b$", "\\begin{align}@b]c", "\\begin{align}@b}c", "\\begin{lstl@sting}$a$",
		"\\(@\\)a", "\\(a@)b", "\\(a\\@b", "\\[@\\]a", "\\[a@]b", "\\[a\\@b", "\\@a\\)b", "\\@a\\]b", "@(a\\)b",
		"\\\xc3@a", "\\\xe2\x82@a", "\\@\xa4a", "\\\xe2@\xaca", "\\\xf0@\x98\x80a", "\\\xed@\x80a",
	}
	for _, shape := range shapes {
		for c := range 256 {
			text := strings.ReplaceAll(shape, "@", string([]byte{byte(c)}))
			hold(t, text, drawn(text))
			hold(t, "a\n"+text+"\n", drawn("a\n"+text+"\n"))
		}
	}
}

// pieces are of all rules.
var pieces = []string{
	"a", "b c", " ", "\n", "\n", "\r\n", "\t", "1", "*", "%", "%d\n", "$", "$", "$$", "$e$", "{", "}", "{", "}", "[", "]", "[f]", "{g}", "~", "&", "#", "^", "_", "\\", "\\\\", "\\%", "\\$", "\\{", "\\}", "\\(", "\\)", "\\[", "\\]", "\\emph", "\\emph{", "\\ref", "\\cite{", "\\label[", "\\begin", "\\begin{", "\\begin{verbatim}", "\\end{verbatim}", "\\begin{align*}", "\\end{align*}", "\\begin{itemize}", "\\end", "verbatim", "\\verb", "\\verb|", "\\verb*", "|", "+", "\u00e4", "\u20ac", "\xff", "\xc3", "\x00",
}

func TestPiecesPutTogether(t *testing.T) {
	r := rand.New(rand.NewSource(13))
	for range 60000 {
		var text strings.Builder
		for range r.Intn(30) {
			text.WriteString(pieces[r.Intn(len(pieces))])
		}
		hold(t, text.String(), drawn(text.String()))
	}
	// Much is swallowed by what doesn't end: without it, long files are gone through to their end.
	var tame []string
	for _, p := range pieces {
		if !strings.ContainsAny(p, "$([|+") && !strings.HasPrefix(p, "\\verb") && !strings.Contains(p, "verbatim}") && !strings.Contains(p, "align") {
			tame = append(tame, p)
		}
	}
	tame = append(tame, "$e$", "$$f$$", "\\(g\\)", "\\[h\\]", "\\verb|i|", "\\verb*+j\n", "\\begin{verbatim}[k]l\\end{verbatim}", "[m]")
	for range 60 {
		var text strings.Builder
		for n := r.Intn(20000); text.Len() < n; {
			text.WriteString(tame[r.Intn(len(tame))])
		}
		hold(t, text.String(), drawn(text.String()))
	}
}

func TestAnyBytes(t *testing.T) {
	r := rand.New(rand.NewSource(14))
	for range 3000 {
		b := make([]byte, r.Intn(200))
		for i := range b {
			b[i] = byte(r.Intn(256))
		}
		hold(t, string(b), drawn(string(b)))
	}
	for _, text := range []string{"\xff", "\xff\n\xfe", "\xc3\n\xa4", "\xc3$\xa4$", "\xe2\x82\n    \xac", "\xf0\x9f{\x98}\x80", "\xed\xa0\x80", "\x80\\a\x80", "\x00", "\x00\n\x00"} {
		hold(t, text, drawn(text))
	}
}

// pair is a text and its picture.
type pair [2]string

func (p pair) times(n int) pair {
	return pair{strings.Repeat(p[0], n), strings.Repeat(p[1], n)}
}

// filled is a file of n bytes: bytes that are prose, one text, another one as often as there is room, a last one.
func filled(n int, ahead, piece, behind pair) pair {
	room := n - len(ahead[0]) - len(behind[0])
	prose := pair{".", "."}.times(room % len(piece[0]))
	all := piece.times(room / len(piece[0]))
	return pair{prose[0] + ahead[0] + all[0] + behind[0], prose[1] + ahead[1] + all[1] + behind[1]}
}

func TestWholeFiles(t *testing.T) {
	none := pair{}
	begin, end := pair{"\\begin{verbatim}", strings.Repeat("m", 16)}, pair{"\\end{verbatim}", strings.Repeat("m", 14)}
	for _, c := range [][3]pair{
		{none, {"a", "."}, none},
		{none, {"\n", "."}, none},
		{none, {"a\n", ".."}, none},
		{none, {"\xff", "."}, none},
		{none, {"\x00\n", ".."}, none},
		{none, {"{", "m"}, none},
		{none, {"}", "m"}, none},
		{none, {"[", "."}, none},
		{none, {"a~b", ".m."}, none},
		// Remarks and math.
		{none, {"%", "r"}, none},
		{none, {"%a\n", "rrr"}, none},
		{none, {"%a\nb", "rrr."}, none},
		{{"%", "r"}, {"$", "r"}, {"\n", "r"}},
		{{"%", "r"}, {"$", "r"}, {"\na", "r."}},
		{none, {"$", "c"}, none},
		{none, {"$$a$$b", "ccccc."}, none},
		{none, {"$a$b", "ccc."}, none},
		{{"$", "c"}, {"a", "c"}, {"$", "c"}},
		{{"$", "c"}, {"\\$", "cc"}, {"$", "c"}},
		{{"$", "c"}, {"\\$", "cc"}, none},
		{{"$$", "cc"}, {"$\\$", "ccc"}, {"$$", "cc"}},
		{{"$$", "cc"}, {"$\\$", "ccc"}, {"$", "c"}},
		{{"$$", "cc"}, {"$a", "cc"}, {"$$b", "cc."}},
		// Commands and backslashes.
		{none, {"\\", "m"}, none},
		{none, {"\\\\", "mm"}, none},
		{none, {"\\a", "mm"}, none},
		{{"\\", "m"}, {"a", "m"}, none},
		{{"\\", "m"}, {"a", "m"}, {"{b}", "m.m"}},
		{none, {"\\\u20ac", "mmmm"}, none},
		{none, {"\\\xc3", "mm"}, none},
		{none, {"\\verb\\verb\\verb", "mmmmmcccccc...."}, {"\n", "."}},
		{none, {"\\verb|a|", "mmmmmccc"}, none},
		{none, {"\\verb|a\n", "mmmmmccc"}, none},
		{none, {"\\verb*\n", "mmmmmm."}, none},
		{{"\\verb|", "mmmmmc"}, {"a", "c"}, {"|", "c"}},
		{{"\\verb|", "mmmmmc"}, {"a", "c"}, {"\n", "c"}},
		{{"\\verb|", "mmmmmc"}, {"a", "c"}, none},
		{{"\\verb|", "mmmmmc"}, {"a", "c"}, {"|b", "c."}},
		// Groups.
		{{"\\ref{", "mmmmm"}, {"a", "m"}, {"}", "m"}},
		{{"\\ref{", "mmmmm"}, {"a", "."}, none},
		{{"\\ref[", "mmmmm"}, {"a", "m"}, {"]", "m"}},
		{{"\\ref[", "mmmm."}, {"a", "."}, none},
		{{"\\ref", "mmmm"}, {"{}", "mm"}, none},
		{{"\\ref", "mmmm"}, {"{a}[b]", "mmmmmm"}, {"c", "."}},
		{{"\\ref{", "mmmmm"}, {"{a}", "mmm"}, {"}", "m"}},
		{{"\\ref{", "mmmmm"}, {"{a}", "m.m"}, none},
		{{"\\ref{", "mmmmm"}, {"\\}", "mm"}, {"}", "m"}},
		{{"\\ref{", "mmmmm"}, {"[", "m"}, {"}", "m"}},
		{none, {"\\ref{", "mmmmm"}, none},
		{none, {"\\ref[", "mmmm."}, none},
		{none, {"\\ref{a\\ref[b", "mmmmm.mmmm.."}, none},
		{none, {"\\ref{\\ref[", "mmmmmmmmm."}, none},
		{none, {"\\ref{a}b", "mmmmmmm."}, none},
		// What isn't read.
		{begin, {"a", "c"}, end},
		{begin, {"a", "c"}, none},
		{begin, {"\\end{verbatim", "ccccccccccccc"}, end},
		{begin, {"\\begin{verbatim}", strings.Repeat("c", 16)}, end},
		{none, {begin[0] + "a" + end[0], begin[1] + "c" + end[1]}, none},
		{none, {"\\begin{align}\\end{align}", strings.Repeat("m", 24)}, none},
		{none, {"\\begin{a}$b$", "mmmmmmmmmccc"}, none},
		{{"\\(", "cc"}, {"a", "c"}, {"\\)", "cc"}},
		{{"\\(", "cc"}, {"\\(", "cc"}, {"\\)", "cc"}},
		{{"\\[", "cc"}, {"a", "c"}, none},
		{{"\\[", "cc"}, {"a", "c"}, {"\\]b", "cc."}},
		{none, {"\\(a\\)b", "ccccc."}, none},
	} {
		f := filled(top, c[0], c[1], c[2])
		hold(t, f[0], f[1])
		f = filled(300, c[0], c[1], c[2])
		holdBoth(t, f[0], f[1])
	}
}

func TestTooManyBytes(t *testing.T) {
	for _, piece := range []string{"a", "$", "\n", "\\", "\\ref{", "\\verb|", "\\begin{align}", "\xff", "%"} {
		all := bytes.Repeat([]byte(piece), top+2)
		for _, n := range []int{top - 1, top} {
			s, e := Lex(all[:n])
			if e != api.OK || s.Len() != n {
				t.Errorf("P13.1: Lex of %d bytes: %d, %d", n, s.Len(), e)
			}
		}
		for _, n := range []int{top + 1, top + 2, len(all)} {
			if s, e := Lex(all[:n]); s != nil || e != api.ErrRange {
				t.Errorf("P13.1, R3: Lex of %d bytes: %v, %d, not nil, %d", n, s, e, api.ErrRange)
			}
		}
	}
}

func TestNoBytes(t *testing.T) {
	for _, b := range [][]byte{nil, {}, make([]byte, 0, 9)} {
		s, e := Lex(b)
		if s == nil || e != api.OK || s.Len() != 0 || len(s.Segs()) != 0 {
			t.Errorf("P13.1: Lex(%v): %v, %d", b, s, e)
		}
	}
}

// scenes are files with something of all rules.
var scenes = []string{
	"\\documentclass[a]{b}\n%c\n\\begin{document}d~e $f\\$g$ $$h$i$$ \\emph{j} \\cite[k]{l{m}\\}}n \\verb|o|p\\verb*+q\nr \\(s\\) \\[t\\] \\\u00e4\\\\ \\begin{align*}[u]v\\end{align*}w\\end{document}",
	"a \\ref{b \\label[c \\begin{verbatim}d\\end{verbatim}{e}[f] \\begin{lstlisting}g\n%h",
	"$$a$b\\$$c",
	"\\begin{equation}{x}[y]\\end{equation}\\verb\\a\\b\\verb*\nc\\(d",
}

func TestSpareRoomIsNotRead(t *testing.T) {
	for _, full := range scenes {
		for n := range len(full) + 1 {
			b := []byte(full)
			s, e := Lex(b[:n])
			if e != api.OK || picture(s) != drawn(full[:n]) {
				t.Fatalf("R6: Lex(%q), room behind it: %s, %d", full[:n], picture(s), e)
			}
			if string(b) != full {
				t.Fatalf("R6: the bytes or the room behind %q are changed: %q", full[:n], b)
			}
		}
	}
}

func TestAnswersAreNewMemory(t *testing.T) {
	for _, full := range scenes {
		b := []byte(full)
		s, _ := Lex(b)
		o, _ := Lex(b)
		p := picture(o)
		s.Set(api.Raw, 0, s.Len())
		clear(b)
		if picture(o) != p || p != drawn(full) {
			t.Errorf("R6: a sheet is changed with another one, or with the bytes: %s", picture(o))
		}
	}
}

func TestAnswersHangOnArgumentsAlone(t *testing.T) {
	texts := slices.Concat(scenes, []string{"", "$", "%", "\\verb|", "\\begin{align}", "\\ref{", "a"})
	var first []string
	for round := range 3 {
		for i, text := range texts {
			told := picture(lexed(t, text))
			if round == 0 {
				first = append(first, told)
			}
			if told != first[i] {
				t.Errorf("R8: %q: %s, not %s", text, told, first[i])
			}
		}
		slices.Reverse(texts)
		slices.Reverse(first)
	}
}

func FuzzLex(f *testing.F) {
	for _, s := range scenes {
		f.Add(s)
	}
	for _, p := range pieces {
		f.Add(p)
	}
	f.Fuzz(func(t *testing.T, text string) {
		if len(text) > top {
			return
		}
		hold(t, text, drawn(text))
	})
}
