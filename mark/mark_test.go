package mark

import (
	"bytes"
	"fmt"
	"math/rand"
	"regexp"
	"slices"
	"strings"
	"testing"

	"redpen/api"
	"redpen/html"
	"redpen/label"
	"redpen/span"
)

const top = api.MaxFile

// pictures are signs for the labels, by their numbers.
const pictures = "0.mrcq*w"

// picture has a sign for each byte's label: a dot for Prose, m for Markup, r for Remark, c for Code.
func picture(s *label.Sheet) string {
	var p strings.Builder
	for i := range s.Len() {
		p.WriteByte(pictures[s.At(i)])
	}
	return p.String()
}

// lexed is Lex's answer for bytes that aren't too many.
func lexed(t *testing.T, text string) *label.Sheet {
	t.Helper()
	b := []byte(text)
	s, e := Lex(b)
	if s == nil || e != api.OK {
		t.Fatalf("P12.1: Lex(%.200q): %v, %d", text, s, e)
	}
	if string(b) != text {
		t.Fatalf("R6: Lex(%.200q) changed the bytes", text)
	}
	if s.Len() != len(text) {
		t.Fatalf("P3: Lex(%.200q): %d bytes of %d", text, s.Len(), len(text))
	}
	return s
}

// hold holds Lex against a picture.
func hold(t *testing.T, text, want string) {
	t.Helper()
	s := lexed(t, text)
	if got := picture(s); got != want {
		t.Fatalf("P12.1: Lex(%.300q):\n%.300s, not\n%.300s", text, got, want)
	}
	lossless(t, s, text)
}

// lossless holds the parts of a sheet against its bytes.
func lossless(t *testing.T, s *label.Sheet, text string) {
	t.Helper()
	var spans []api.Span
	for _, g := range s.Segs() {
		spans = append(spans, g.Span)
		if g.Label < api.Prose || g.Label > api.Code {
			t.Fatalf("P3: Lex(%.200q): the label %d", text, g.Label)
		}
	}
	if !span.Cover(spans, len(text)) {
		t.Fatalf("P3: Lex(%.200q): the parts are not all of %d bytes, side by side", text, len(text))
	}
}

// A second reader, which holds each line against patterns.
var (
	fronts  = regexp.MustCompile(`\A---[ \t\r]*\n(?:[^\n]*\n)*?---[ \t\r]*(?:\n|\z)`)
	eachs   = regexp.MustCompile(`[^\n]*\n|[^\n]+\z`)
	empties = regexp.MustCompile(`\A[ \t\r\n]*\z`)
	deeps   = regexp.MustCompile(`\A(?: {4}| {0,3}\t)`)
	openers = regexp.MustCompile("\\A {0,3}(?:(`{3,})[^`]*\\z|(~{3,}))")
	closers = regexp.MustCompile("\\A {0,3}(`+|~+)[ \t\r\n]*\\z")
	defined = regexp.MustCompile(`\A {0,3}\[[^\]]+\]:`)
	escapes = regexp.MustCompile("\\A\\\\[!-/:-@\\[-`{-~]")
	ticks   = regexp.MustCompile("`+")
	links   = regexp.MustCompile(`\A<[A-Za-z\x{c0}-\x{d6}\x{d8}-\x{f6}\x{f8}-\x{24f}\x{370}-\x{52f}]{2,}:[^ \t\r\n<>]*>`)
	remarks = regexp.MustCompile(`(?s)\A<!--.*?-->`)
)

// drawn is the picture that Lex's answer must have.
func drawn(text string) string {
	front := len(fronts.FindString(text))
	var p strings.Builder
	p.WriteString(strings.Repeat("c", front))
	fence, ahead := "", true
	for _, line := range eachs.FindAllString(text[front:], -1) {
		sign, opens := ".", openers.FindStringSubmatch(line)
		next := false
		switch {
		case fence != "":
			sign = "c"
			if m := closers.FindStringSubmatch(line); m != nil && strings.HasPrefix(m[1], fence) {
				fence = ""
			}
		case empties.MatchString(line):
			next = true
		case ahead && deeps.MatchString(line):
			sign, next = "c", true
		case opens != nil:
			sign, fence = "c", opens[1]+opens[2]
		case defined.MatchString(line):
			sign = "m"
		default:
			p.WriteString(textDrawn(line))
			sign = ""
		}
		p.WriteString(strings.Repeat(sign, len(line)))
		ahead = next
	}
	return p.String()
}

// textDrawn is the picture of a line's text.
func textDrawn(line string) string {
	var p []byte
	add := func(sign string, n int) { p = append(p, strings.Repeat(sign, n)...) }
	for len(p) < len(line) {
		switch rest := line[len(p):]; {
		case escapes.MatchString(rest):
			add(".", 2)
		case rest[0] == '`':
			n := len(ticks.FindString(rest))
			if to := closerOf(rest, n); to > 0 {
				add("c", to)
			} else {
				add(".", n)
			}
		case strings.HasPrefix(rest, "]("):
			add(".", 1)
			add("m", bracketed(rest[1:]))
		case links.MatchString(rest):
			add("m", len(links.FindString(rest)))
		case remarks.MatchString(rest):
			add("r", len(remarks.FindString(rest)))
		case rest[0] != '<':
			add(".", 1)
		default:
			tag, ok := html.Read([]byte(rest), 0)
			if !ok {
				add(".", 1)
				continue
			}
			at := len(p)
			add("m", tag.End)
			for _, s := range tag.Prose {
				copy(p[at+s.At:], strings.Repeat(".", s.Len))
			}
		}
	}
	return string(p)
}

// closerOf is where the first row of just n ticks ends behind the n with which a text begins; 0, if there is none.
func closerOf(text string, n int) int {
	for _, at := range ticks.FindAllStringIndex(text, -1)[1:] {
		if at[1]-at[0] == n {
			return at[1]
		}
	}
	return 0
}

// bracketed is how many bytes the brackets have with which a text begins; 0, if they aren't shut.
func bracketed(text string) int {
	var open []int
	taken := false
	for i, c := range []byte(text) {
		switch {
		case taken:
			taken = false
		case c == '\\':
			taken = true
		case c == '(':
			open = append(open, i)
		case c == ')':
			open = open[:len(open)-1]
		}
		if len(open) > 32 {
			return 0
		}
		if len(open) == 0 {
			return i + 1
		}
	}
	return 0
}

func TestExample(t *testing.T) {
	text := "a [b](c) `d`"
	want := []api.Seg{
		{Label: api.Prose, Span: api.Span{At: 0, Len: 5}},
		{Label: api.Markup, Span: api.Span{At: 5, Len: 3}},
		{Label: api.Prose, Span: api.Span{At: 8, Len: 1}},
		{Label: api.Code, Span: api.Span{At: 9, Len: 3}},
	}
	if got := lexed(t, text).Segs(); !slices.Equal(got, want) {
		t.Errorf("P12.1: Lex(%q): %v, not %v", text, got, want)
	}
	hold(t, text, ".....mmm.ccc")
}

// pick is one of two texts.
func pick(first bool, a, b string) string {
	if first {
		return a
	}
	return b
}

// holdLines holds lines each of which has one label, by the sign that stands ahead of it, however lines end.
func holdLines(t *testing.T, rows ...string) {
	t.Helper()
	for _, end := range []string{"\n", "\r\n", " \n", "\t\r\n", "\r\r\n"} {
		var text, want string
		for i, r := range rows {
			if i > 0 {
				text += end
				want += strings.Repeat(want[len(want)-1:], len(end))
			}
			text += r[1:]
			want += strings.Repeat(r[:1], len(r)-1)
			if len(r) == 1 {
				want += r[:1]
				text += " "
			}
		}
		hold(t, text, want)
		hold(t, text+end, want+strings.Repeat(want[len(want)-1:], len(end)))
	}
}

func TestFrontMatter(t *testing.T) {
	for _, rows := range [][]string{
		{"c---", "c---"},
		{"c---", "c---", ".a"},
		{"c---", "ca: b", "c---", ".a"},
		{"c---", "c", "ca", "c", "c---", ".a"},
		{"c--- ", "ca", "c---\t \t", ".a"},
		{"c---", "c```", "c---", ".a", "c```", "cb", "c```"},
		{"c---", "c~~~", "c    b", "c[a]: b", "c---", ".a"},
		{"c---", "c<b>", "c`c`", "c--- ", ".a"},
		{"c---", "ca", "c---", ".b", ".---", ".c", ".---"},
		{"c---", "c--", "c----", "c ---", "c--- a", "c---a", "c***", "c---", ".a"},
		{"c---", "c---", "c    a", "c    b"},
		{"c---", "c---", ".", "c    a"},
		{"c---", "c---", "c\ta", ".b", ".\tc"},
		{"c---", "c---", ".a", ".    b"},
		{"c---", "c---", "c```", "ca", "c```", ".b"},
		{"c---", "c---", ".---", ".a", ".---"},
		// Without an end there is none, and the lines are what they are.
		{".---"},
		{".---", ".a"},
		{".---", ".a", ".----"},
		{".---", ".a", ". ---"},
		{".---", ".a", ".--- b", ".--"},
		{".---", ".    a", ".", "c    b"},
		{".---", "c```", "ca"},
		{".---", "m[a]: b"},
		// Another line stands first.
		{".", ".---", ".a", ".---"},
		{".a", ".---", ".b", ".---"},
		{". ---", ".a", ".---"},
		{"c\t---", ".a", ".---"},
		{"c    ---", ".a", ".---"},
		{".----", ".a", ".----"},
		{".--", ".a", ".--"},
		{".--- a", ".b", ".---"},
		{".---a", ".b", ".---"},
		{".\ufeff---", ".b", ".---"},
		{".+++", ".b", ".+++"},
		{".\v---", ".b", ".---"},
		{".---\f", ".b", ".---"},
		{".---", ".b", ".---\v"},
		{".---", ".b", ".---\x00"},
	} {
		holdLines(t, rows...)
	}
	hold(t, "---\ra\r---", ".........")
	hold(t, "---\r\n---", "cccccccc")
	hold(t, "---\n---", "ccccccc")
	hold(t, "---\n---\n", "cccccccc")
	hold(t, "---\n\n---\n\n", "ccccccccc.")
	hold(t, "\n---\n---", "........")
	hold(t, "---", "...")
	hold(t, "---\n", "....")
}

func TestFences(t *testing.T) {
	for _, rows := range [][]string{
		{"c```"},
		{"c~~~"},
		{"c```", "ca", "c```", ".b"},
		{"c~~~", "ca", "c~~~", ".b"},
		{"c````", "ca", "c````", ".b"},
		{"c~~~~~~~", "ca", "c~~~~~~~", ".b"},
		{".a", "c```", "cb", "c```", ".c"},
		{"c``` go", "ca", "c```", ".b"},
		{"c```go run", "ca", "c```", ".b"},
		{"c```~", "ca", "c```", ".b"},
		{"c```~~~", "ca", "c~~~", "c```", ".b"},
		{"c~~~ go", "ca", "c~~~", ".b"},
		{"c~~~`", "ca", "c~~~", ".b"},
		{"c~~~```", "ca", "c```", "c~~~", ".b"},
		{"c~~~ ~", "ca", "c~~~", ".b"},
		{"c~~~ ~~~~", "ca", "c~~~", ".b"},
		{"c~~~a~~~", "ca", "c~~~", ".b"},
		// Fewer than three, and other signs, are none.
		{".``", ".a", ".``"},
		{".~~", ".a", ".~~"},
		{".`", ".a"},
		{".~", ".a"},
		{".~~ ~", ".a", ".~~"},
		{".---", ".a"},
		{".***", ".a", ".***"},
		{".a```", ".b"},
		{".a~~~", ".b"},
		{".-```", ".b"},
		{".\f```", ".b"},
		// Indents.
		{"c ```", "ca", "c ```", ".b"},
		{"c  ```", "ca", "c```", ".b"},
		{"c   ```", "ca", "c   ```", ".b"},
		{"c   ~~~", "ca", "c  ~~~", ".b"},
		{".a", ".    ```", ".b"},
		{".a", ".    ~~~", ".b"},
		{".a", ".     ~~~", ".b"},
		{"c    ```", ".b"},
		{".a", ".\t```", ".b"},
		{".a", ". \t~~~", ".b"},
		{".a", ".   \t~~~", ".b"},
		{"c\t~~~", ".b"},
		{"c```", "c    ```", "ca", "c     ```", "c```", ".b"},
		{"c~~~", "c    ~~~", "ca", "c\t~~~", "c \t~~~", "c   \t~~~", "c   ~~~", ".b"},
		// What closes one.
		{"c```", "ca", "c````", ".b"},
		{"c```", "ca", "c``````````", ".b"},
		{"c~~~", "ca", "c~~~~", ".b"},
		{"c`````", "c`", "c``", "c```", "c````", "c`````", ".b"},
		{"c~~~~", "c~", "c~~~", "ca", "c~~~~~", ".b"},
		{"c```", "c``", "c`", "ca", "c```", ".b"},
		{"c```", "c~~~", "ca", "c~~~~", "c```", ".b"},
		{"c~~~", "c```", "ca", "c`````", "c~~~", ".b"},
		{"c```", "ca", "c``` ", ".b"},
		{"c```", "ca", "c``` \t \t", ".b"},
		{"c~~~", "ca", "c~~~\t", ".b"},
		{"c```", "ca", "c```\r", ".b"},
		{"c```", "c``` a", "cb", "c```a", "c a```", "c``` ```", "c```~", "c~```", "c```", ".b"},
		{"c~~~", "c~~~ a", "cb", "c~~~a", "c~~~ ~~~", "c~~~`", "c~~~", ".b"},
		{"c~~~", "c~~~\f", "c~~~\v", "c~~~\x00", "c\f~~~", "c~~~", ".b"},
		{"c```", "c", "c  ", "c```", ".b"},
		{"c```", "c[a]: b", "c<b>", "c    d", "c]( )", "c---", "c```", ".b"},
		{"c```", "ca", "c", "cb"},
		{"c~~~~", "ca", "c~~~", "c```"},
		// One behind the other.
		{"c```", "c```", "c```", "c```", ".b"},
		{"c```", "c```", "c~~~", "c```", "c~~~", ".b"},
		{"c```a", "c```", "c```b", "ca", "c```", ".b"},
		{"c```", "ca", "c```", "c```", "cb"},
	} {
		holdLines(t, rows...)
	}
	// Another ` behind it: it is a text.
	hold(t, "```a`\nb", ".......")
	hold(t, "``` `\nb", ".......")
	hold(t, "```a```\nb", "ccccccc..")
	hold(t, "``` ````\nb", "..........")
	hold(t, "````a``` b\n", "...........")
	hold(t, "   ```a```\nb", "...ccccccc..")
	hold(t, "~~~a```b```\nb", "ccccccccccccc")
	hold(t, "```\\`\nb", ".......")
	hold(t, "\\```\nb\n", ".......")
	hold(t, "\\~~~\nb\n", ".......")
}

func TestCodeByItsIndent(t *testing.T) {
	for _, rows := range [][]string{
		{"c    a"},
		{"c\ta"},
		{"c \ta"},
		{"c  \ta"},
		{"c   \ta"},
		{"c     a"},
		{"c    \ta"},
		{"c\t\ta"},
		{".   a"},
		{".  a"},
		{". a"},
		{".a\tb"},
		{". a\tb"},
		{".\va"},
		{".\u00a0\u00a0\u00a0\u00a0a"},
		// The line ahead.
		{".a", ".    b"},
		{".a", ".\tb", ".\tc"},
		{".a", ".", "c    b"},
		{".a", ".", ".", "c    b"},
		{".a", ".\t", "c    b"},
		{".a", ".      ", "c \tb"},
		{".", "c    b"},
		{".    ", "c    b"},
		{"c    a", "c    b", "c\tc", ".d"},
		{"c    a", ".", "c    b", ".", ".", "c    c", ".d"},
		{"c    a", ".      ", ".\t\t", "c    b"},
		{"c    a", ".b", ".    c"},
		{"c    a", ".   b", ".    c"},
		{"c    a", ".b", ".", "c    c"},
		{".a", ".    b", ".    c", ".", "c    d", "c    e"},
		// Behind what else there is.
		{"c```", "ca", "c```", ".    b"},
		{"c```", "ca", "c", "c```", ".    b"},
		{"c```", "ca", "c```", ".", "c    b"},
		{"c```", "c    a", "c```", ".    b"},
		{"c~~~", "c~~~", ".\tb"},
		{"c~~~", "c", "c~~~", ".\tb", ".\tc"},
		{"c    a", "c```", "c```", ".    b"},
		{"m[a]: b", ".    c"},
		{"m[a]: b", ".", "c    c"},
		{"c    a", "m[a]: b", ".    c"},
		{"c---", "ca", "c---", "c    b", ".c"},
		{"c---", "c", "c---", ".b", ".    c"},
		// What it would be without its indent.
		{"c    [a]: b"},
		{"c    ```", "c    a", "c    ```", ".b"},
		{"c    ---", ".a", ".---"},
		{"c    <b>`c`](d)"},
		{"c    \\"},
		{".a", ".    [a]: b"},
	} {
		holdLines(t, rows...)
	}
	hold(t, "    a\n    ", "cccccc....")
	hold(t, "    \n    a", ".....ccccc")
	hold(t, "\t", ".")
	hold(t, "   ", "...")
	hold(t, "a\n    `b` <c>\n", "......ccc.mmm.")
	hold(t, "a\n\t`b` <c>\n", "...ccc.mmm.")
	hold(t, "   `b` <c>\n", "...ccc.mmm.")
}

func TestDefinitions(t *testing.T) {
	for _, rows := range [][]string{
		{"m[a]: b"},
		{"m[a]:"},
		{"m[a]:b `c` <d>"},
		{"m [a]: b"},
		{"m  [a]: b"},
		{"m   [a]: b"},
		{".a", "m[a]: b", "m[c]: d", ".e"},
		{"m[^1]: b"},
		{"m[ ]: b"},
		{"m[[]: b"},
		{"m[[a]: b"},
		{"m[\\]: b"},
		{"m[\xff]: b"},
		{"m[a\tb c:]: d"},
		{"m[a]: b]: c"},
		{"m[a]::"},
		{"m[a]:]"},
		{"m[`a]: b` c"},
		{"m[<a]: b>"},
		{"m[(]: c"},
		// None.
		{".[]: b"},
		{".[]]: b"},
		{".[]a]: b"},
		{".[a]]: b"},
		{".[a]b]: c"},
		{".[\\]]: b"},
		{".[a] : b"},
		{".[a]"},
		{".[a"},
		{".["},
		{".[a:"},
		{".[a:]"},
		{".[a]\t: b"},
		{".a]: b"},
		{".]: b"},
		{".![a]: b"},
		{".a [b]: c"},
		{".\\[a]: b"},
		{".-[a]: b"},
		{".(a): b"},
		{".a", ".    [b]: c"},
		{".a", ".\t[b]: c"},
		{".a", ".  \t[b]: c"},
		{"c    [b]: c"},
		{".a", ".[b", ".]: c"},
		{".[", ".a]: b"},
	} {
		holdLines(t, rows...)
	}
	hold(t, "[a](b]: c", ".........")
	hold(t, "[a](b): c", "...mmm...")
}

// holdText holds a text against its picture, with other lines about it, however it ends.
func holdText(t *testing.T, text, want string) {
	t.Helper()
	if len(text) != len(want) {
		t.Fatalf("%q has %d bytes, its picture %d: %s", text, len(text), len(want), want)
	}
	for _, ahead := range []string{"", "a\n", "\n", "`<!--](\n", "<a\n", "---\n", "<a b='\r\n"} {
		for _, behind := range []string{"", "\n", "\r\n", "\n`` ` ``` )-->b>'\">", "\r\n)\n```x`\n"} {
			all := ahead + text + behind
			hold(t, all, strings.Repeat(".", len(ahead))+want+strings.Repeat(".", len(behind)))
			if got := drawn(all); got != strings.Repeat(".", len(ahead))+want+strings.Repeat(".", len(behind)) {
				t.Fatalf("the second reader's picture of %q: %s", all, got)
			}
		}
	}
}

func TestBackslashes(t *testing.T) {
	for _, c := range [][2]string{
		{"a\\", ".."},
		{"\\", "."},
		{"\\\\", ".."},
		{"\\`a`", "...."},
		{"\\`a`b`", "...ccc"},
		{"\\\\`a`", "..ccc"},
		{"\\\\\\`a`", "......"},
		{"\\a`b`", "..ccc"},
		{"\\0`b`", "..ccc"},
		{"\\ `b`", "..ccc"},
		{"\\\t`b`", "..ccc"},
		{"\\\x7f`b`", "..ccc"},
		{"\\\xff`b`", "..ccc"},
		{"\\\u00e4`b`", "...ccc"},
		{"\\!`b`", "..ccc"},
		{"\\~`b`", "..ccc"},
		{"a \\](b)", "......."},
		{"a ]\\(b)", "......."},
		{"a \\\\](b)", ".....mmm"},
		{"a \\[b](c)", "......mmm"},
		{"\\<b>", "...."},
		{"\\\\<b>", "..mmm"},
		{"\\<ab:c>", "......."},
		{"\\<!--a-->", "........."},
		{"<\\b>", "...."},
		{"\\<<b>", "..mmm"},
		{"\\``a`", "..ccc"},
		{"\\``a``", "......"},
		{"\\`", ".."},
		{"a\\`\\", "...."},
		{"\\[a]: b", "......."},
		{"`a\\`", "cccc"},
		{"`\\`a`", "ccc.."},
	} {
		holdText(t, c[0], c[1])
	}
	// No more than one byte is taken along, whatever that is.
	for c := range 256 {
		if c != '\n' && c != '`' {
			hold(t, "a\\"+string([]byte{byte(c)})+"`b`c\\", "...ccc..")
		}
	}
}

func TestTicks(t *testing.T) {
	for _, c := range [][2]string{
		{"`a`", "ccc"},
		{"``a``", "ccccc"},
		{"a ```b``` c", "..ccccccc.."},
		{"`a` `b`", "ccc.ccc"},
		{"`a`b`c`", "ccc.ccc"},
		{"`` a", "...."},
		{"`a", ".."},
		{"a`", ".."},
		{"``", ".."},
		{"` `", "ccc"},
		{"`a``", "...."},
		{"``a`", "...."},
		{"`a``b`", "cccccc"},
		{"``a`b``", "ccccccc"},
		{"``a```b``c", "ccccccccc."},
		{"``a```b", "......."},
		{"`a``b```c", "........."},
		{"`a``b```c``", "..ccccccccc"},
		{"``a`b`", "...ccc"},
		{"a````b```c`d``", ".............."},
		{"a````b```c`d``e`", "..........cccccc"},
		{"a```b````c```", ".cccccccccccc"},
		{"`a``b`c``d", "cccccc...."},
		{"`<b>`", "ccccc"},
		{"`](b)`", "cccccc"},
		{"`a`](b)", "ccc.mmm"},
		{"](`)`", ".mmm."},
		{"](`", "..."},
		{"`](`)", "cccc."},
		{"<a b=`> `", "mmmmmmm.."},
		{"`a<b`>", "ccccc."},
		{"`\xff`\xff", "ccc."},
		{"`a\\``", "....."},
		{"``a\\``", "cccccc"},
	} {
		holdText(t, c[0], c[1])
	}
	// The others stand on the next line alone.
	hold(t, "`a\nb`", ".....")
	hold(t, "``a\n``", "......")
	hold(t, "`a\n`b`", "...ccc")
	hold(t, "`a`\n`b", "ccc...")
	for n := 1; n < 12; n++ {
		for m := 1; m < 12; m++ {
			text := "a" + strings.Repeat("`", n) + "b" + strings.Repeat("`", m)
			hold(t, text, "."+strings.Repeat(pick(n == m, "c", "."), n+1+m))
		}
	}
}

func TestTargets(t *testing.T) {
	for _, c := range [][2]string{
		{"](b)", ".mmm"},
		{"[a](b)c", "...mmm."},
		{"![a](b \"c\")", "....mmmmmmm"},
		{"]()", ".mm"},
		{"](", ".."},
		{"](b", "..."},
		{"] (b)", "....."},
		{"](b\\)", "....."},
		{"](b\\)c)", ".mmmmmm"},
		{"](b\\\\)c)", ".mmmmm.."},
		{"](\\(b)", ".mmmmm"},
		{"](\\(b))", ".mmmmm."},
		{"](\\", "..."},
		{"](\\a)", ".mmmm"},
		{"](\\\xff)", ".mmmm"},
		{"](()", "...."},
		{"](())", ".mmmm"},
		{"](a(b)c)d", ".mmmmmmm."},
		{"](a(b)(c))d)", ".mmmmmmmmm.."},
		{"](a(b)c", "......."},
		{"](a](b)", "....mmm"},
		{"](a](b))", ".mmmmmmm"},
		{"](a)](b)", ".mmm.mmm"},
		{"]](b)", "..mmm"},
		{"[](b)](", "..mmm.."},
		{"(b)", "..."},
		{"(b](c)", "...mmm"},
		{"](<b>)", ".mmmmm"},
		{"](<b>", "..mmm"},
		{"](<)>)", ".mmm.."},
		{"](`a`", "..ccc"},
		{"](\\](a)", "......."},
		{"](\xff\x00)", ".mmmm"},
		{"](a b\tc)", ".mmmmmmm"},
		{"]((](b)", "....mmm"},
	} {
		holdText(t, c[0], c[1])
	}
	hold(t, "](a\n)", ".....")
	hold(t, "](a\\\n)", "......")
	hold(t, "](\\\n)", ".....")
	hold(t, "]\n(b)", ".....")
	hold(t, "]", ".")
}

func TestBracketsInOneAnother(t *testing.T) {
	for n := 1; n <= 40; n++ {
		open, end := strings.Repeat("(", n), strings.Repeat(")", n)
		sign := pick(n <= 32, "m", ".")
		holdText(t, "a]"+open+"b"+end+"c", ".."+strings.Repeat(sign, 2*n+1)+".")
		// One less on the other side.
		hold(t, "a]"+open+"b"+end[1:]+"c", strings.Repeat(".", 2*n+3))
		// Many, but not deeper.
		holdText(t, "](a"+strings.Repeat("(b)", n)+")", "."+strings.Repeat("m", 3*n+3))
		if n > 2 {
			inner := open[2:] + end[2:]
			hold(t, "]("+inner+inner+"c)", "."+strings.Repeat(pick(n-1 <= 32, "m", "."), 4*(n-2)+3))
		}
		// A backslash ahead of brackets: they don't count.
		hold(t, "]("+strings.Repeat("\\(", n)+")", "."+strings.Repeat("m", 2*n+2))
		hold(t, "]("+strings.Repeat("\\(", n)+open[1:]+end, "."+strings.Repeat(sign, 4*n))
	}
	// One that stands too deep hides those within it no longer.
	hold(t, "]"+strings.Repeat("(", 33)+"](a)", strings.Repeat(".", 35)+"mmm")
	hold(t, strings.Repeat("](", 32)+strings.Repeat(")", 32), "."+strings.Repeat("m", 63+32))
	hold(t, strings.Repeat("](", 33)+strings.Repeat(")", 33), "..."+strings.Repeat("m", 63+32)+".")
}

func TestLinks(t *testing.T) {
	for _, c := range [][2]string{
		{"<ab:c>", "mmmmmm"},
		{"a<http://b.c/d?e=f&g>h", ".mmmmmmmmmmmmmmmmmmmm."},
		{"<ab:>", "mmmmm"},
		{"<AZ:>", "mmmmm"},
		{"<az:>", "mmmmm"},
		{"<abcdefghijkl:m>", "mmmmmmmmmmmmmmmm"},
		{"<ab::>", "mmmmmm"},
		{"<ab:\xff>", "mmmmmm"},
		{"<ab:\f\v\x00>", "mmmmmmmm"},
		{"<ab:c>>", "mmmmmm."},
		{"<ab:`>`", "mmmmmm."},
		{"<ab:\\>", "mmmmmm"},
		{"<ab:](>)", "mmmmmmm."},
		{"<ab:<cd:e>", "mmmmmmmmmm"},
		{"<ab:'<cd:e>", "mmmmmmmmmmm"},
		{"<ab:='<cd:e>", "......mmmmmm"},
		{"<ab:c", "....."},
		{"<ab:", "...."},
		{"<ab: ", "....."},
		// A link has no prose; a tag, by its alt and title, has.
		{"<ab:/alt='c'>", "mmmmmmmmmmmmm"},
		{"<ab:alt='c>'>", "mmmmmmmmmmm.."},
		{"<a:/alt='c'>", "mmmmmmmmm.mm"},
		{"<ab/alt='c:'>", "mmmmmmmmm..mm"},
		{"<ab/:alt='c>'>", "mmmmmmmmmmmmmm"},
		{"<a1:/alt='c'>", "mmmmmmmmmm.mm"},
		{"<a-b:/alt='c'>", "mmmmmmmmmmm.mm"},
		{"</ab:/alt='c'>", "mmmmmmmmmmm.mm"},
		{"<ab:c alt='d'>", "mmmmmmmmmmm.mm"},
		{"<ab:\talt='d'>", "mmmmmmmmmm.mm"},
		{"<ab:\ralt='d'>", "mmmmmmmmmm.mm"},
		{"<ab:</alt='c'>", "mmmmmmmmmmm.mm"},
		{"<ab /alt='c:'>", "mmmmmmmmmm..mm"},
		{"<ab\f:/alt='c'>", "mmmmmmmmmmm.mm"},
		{"<ab:\f/alt='c'>", "mmmmmmmmmmmmmm"},
		// Neither a link nor a tag.
		{"<1b:c>", "......"},
		{"<:c>", "...."},
		{"< ab:c>", "......."},
		{"<@@:c>", "......"},
		{"<[[:c>", "......"},
		{"<``:c>", "......"},
		{"<{{:c>", "......"},
		{"<<ab:c>", ".mmmmmm"},
	} {
		holdText(t, c[0], c[1])
	}
	hold(t, "<ab:c\n>", ".......")
	hold(t, "<ab:c\r\n>", "........")
	hold(t, "<ab\n:c>", ".......")
}

// TestLettersOfLinks: a letter is chapter 4's, as everywhere but where a chapter says otherwise.
func TestLettersOfLinks(t *testing.T) {
	for _, c := range []struct {
		first rune
		is    bool
	}{
		{0x40, false}, {0x5b, false}, {0x60, false}, {0x7b, false}, {0xaa, false}, {0xb5, false}, {0xbf, false},
		{0xc0, true}, {0xd6, true}, {0xd7, false}, {0xd8, true}, {0xdf, true}, {0xe0, true}, {0xf6, true}, {0xf7, false}, {0xf8, true}, {0xff, true},
		{0x100, true}, {0x24f, true}, {0x250, false}, {0x36f, false}, {0x370, true}, {0x52f, true}, {0x530, false}, {0x4e00, false}, {0xfffd, false}, {0x1f600, false},
	} {
		sign := pick(c.is, "m", ".")
		n := len(string(c.first))
		holdText(t, "<"+string(c.first)+"b:c>", strings.Repeat(sign, n+5))
		holdText(t, "<"+string(c.first)+string(c.first)+":c>", strings.Repeat(sign, 2*n+4))
		// One letter alone begins none, of however many bytes it is.
		holdText(t, "<"+string(c.first)+":c>", strings.Repeat(".", n+4))
	}
	holdText(t, "<\xc3b:c>", "......")
	holdText(t, "<\xc3\xc3:c>", "......")
	holdText(t, "<\xc0\x80b:c>", ".......")
}

func TestRemarks(t *testing.T) {
	for _, c := range [][2]string{
		{"<!--a-->", "rrrrrrrr"},
		{"a<!-- b -->c", ".rrrrrrrrrr."},
		{"<!---->", "rrrrrrr"},
		{"<!----->", "rrrrrrrr"},
		{"<!-->", "....."},
		{"<!--->", "......"},
		{"<!-->a-->b", "rrrrrrrrr."},
		{"<!--->a-->b", "rrrrrrrrrr."},
		{"<!-->-->", "rrrrrrrr"},
		{"<!--->-->", "rrrrrrrrr"},
		{"<!--a--->b", "rrrrrrrrr."},
		{"<!--a-- >-->b", "rrrrrrrrrrrr."},
		{"<!--a-->-->", "rrrrrrrr..."},
		{"<!--<!--a-->-->", "rrrrrrrrrrrr..."},
		{"<!--`-->`", "rrrrrrrr."},
		{"`<!--`-->", "cccccc..."},
		{"<!--](-->)", "rrrrrrrrr."},
		{"](<!--)-->", ".mmmmmm..."},
		{"<!--\\-->", "rrrrrrrr"},
		{"<!--<b>-->", "rrrrrrrrrr"},
		{"<!--\xff\x00-->", "rrrrrrrrr"},
		{"<!--a<b>", ".....mmm"},
		{"<!--a", "....."},
		{"<!--", "...."},
		{"<!--a--", "......."},
		{"<!--a->", "......."},
		{"<!-a-->", "......."},
		{"<!a-->", "......"},
		{"<--a-->", "......."},
		{"!--a-->", "......."},
		{"-->", "..."},
		{"<! --a-->", "........."},
		{"<!DOCTYPE a>", "............"},
		{"<![CDATA[a]]>", "............."},
		{"<?a?>", "....."},
	} {
		holdText(t, c[0], c[1])
	}
	hold(t, "<!--a\n-->", ".........")
	hold(t, "<!--\n-->", "........")
	hold(t, "<!--a\n<!--b-->-->", "......rrrrrrrr...")
}

func TestTags(t *testing.T) {
	for _, c := range [][2]string{
		{"<b>", "mmm"},
		{"a<b>c</b>d", ".mmm.mmmm."},
		{"<B/>", "mmmm"},
		{"<b c=d>e", "mmmmmmm."},
		{"<b c='>'>d", "mmmmmmmmm."},
		{"<b alt='c'>d", "mmmmmmmm.mm."},
		{"<b Title=\"c d\" x ALT='e'>f", "mmmmmmmmmm...mmmmmmmmm.mm."},
		{"<b alt=''>c", "mmmmmmmmmm."},
		{"<b alt='`'>`", "mmmmmmmm.mm."},
		{"<b alt='<i>'>", "mmmmmmmm...mm"},
		{"<b alt='](c)'>", "mmmmmmmm....mm"},
		{"<b alt='c`d'>`e`", "mmmmmmmm...mmccc"},
		{"<script>a</script>`b`", "mmmmmmmm.mmmmmmmmmccc"},
		{"<style>`a`</style>", "mmmmmmmcccmmmmmmmm"},
		{"<title><b></title>", "mmmmmmmmmmmmmmmmmm"},
		{"<textarea>a", "mmmmmmmmmm."},
		{"<b", ".."},
		{"<b ", "..."},
		{"<b c='", "......"},
		{"<b c='d>", "........"},
		{"<b c=\"'>", "........"},
		{"<b alt='c'", ".........."},
		{"<", "."},
		{"<>", ".."},
		{"< b>", "...."},
		{"<1>", "..."},
		{"</>", "..."},
		{"</ b>", "....."},
		{"a < b > c", "........."},
		{"<<b>", ".mmm"},
		{"<b<c>", "mmmmm"},
		{"<b c='<d>", "......mmm"},
		{"<b\f>", "mmmm"},
		{"<b\xff>", "mmmm"},
		{"<\u00e4>", "...."},
		{"b>", ".."},
	} {
		holdText(t, c[0], c[1])
	}
	// Those that end on the next line are none.
	hold(t, "<b\n>", "....")
	hold(t, "<b\r\n>", ".....")
	hold(t, "<b c='\n'>", ".........")
	hold(t, "<b alt='c\nd'>", strings.Repeat(".", 13))
	hold(t, "<b\nalt='c'>`d`", "...........ccc")
	hold(t, "<b c='\n<d>", ".......mmm")
	// A quote that begins on a line doesn't reach beyond it.
	hold(t, "<b c='>\n<d>'", "........mmm.")
}

// kind is a line whose roles are known by hand.
type kind struct {
	text       string
	pic        string // as a text, or as the definition that it is
	blank      bool
	deep       bool
	dashes     bool
	opens      byte
	closes     byte
	many       int
	definition bool
}

var kinds = []kind{
	{text: "", blank: true},
	{text: " \t ", blank: true},
	{text: "     ", blank: true},
	{text: "---", pic: "...", dashes: true},
	{text: "--- \t", pic: ".....", dashes: true},
	{text: " ---", pic: "...."},
	{text: "    ---", pic: ".......", deep: true},
	{text: "a", pic: "."},
	{text: "a `b` [c](d) <e> <ff:g> <!--h--> \\<i>", pic: "..ccc....mmm.mmm.mmmmmm.rrrrrrrr....."},
	{text: "   <a alt='b'>`", pic: "...mmmmmmmm.mm."},
	{text: "    c `d`", pic: "......ccc", deep: true},
	{text: " \tc <d>", pic: "....mmm", deep: true},
	{text: "```", opens: '`', closes: '`', many: 3},
	{text: "  ``` \t", opens: '`', closes: '`', many: 3},
	{text: "````", opens: '`', closes: '`', many: 4},
	{text: "``` go", opens: '`', many: 3},
	{text: "```a`", pic: "....."},
	{text: "    ```", pic: ".......", deep: true},
	{text: "\t~~~", pic: "....", deep: true},
	{text: "~~~", opens: '~', closes: '~', many: 3},
	{text: "   ~~~~~", opens: '~', closes: '~', many: 5},
	{text: "~~~ `~~~", opens: '~', many: 3},
	{text: "~~", pic: "..", closes: '~', many: 2},
	{text: "[a]: b", definition: true},
	{text: "   [`a`]: <b>", definition: true},
	{text: "    [a]: b", pic: "..........", deep: true},
	{text: "[]: b", pic: "....."},
}

// together puts lines together, and tells their picture from what is known of them.
func together(l []kind, end string, last bool) (string, string) {
	var text, want strings.Builder
	behind := 0
	for i := 1; i < len(l) && l[0].dashes && behind == 0; i++ {
		if l[i].dashes {
			behind = i + 1
		}
	}
	var open kind
	code := true
	for i, k := range l {
		all := k.text + end
		if i == len(l)-1 && !last {
			all = k.text
		}
		text.WriteString(all)
		pic := ""
		next := false
		switch {
		case i < behind:
			pic, next = "c", true
		case open.many > 0:
			pic = "c"
			if k.closes == open.opens && k.many >= open.many {
				open = kind{}
			}
		case k.blank:
			pic, next = ".", true
		case k.deep && code:
			pic, next = "c", true
		case k.opens > 0:
			pic, open = "c", k
		case k.definition:
			pic = "m"
		default:
			want.WriteString(k.pic)
			want.WriteString(strings.Repeat(".", len(all)-len(k.pic)))
		}
		if pic != "" {
			want.WriteString(strings.Repeat(pic, len(all)))
		}
		code = next
	}
	return text.String(), want.String()
}

func TestLinesPutTogether(t *testing.T) {
	for _, k := range kinds {
		if k.pic != "" && len(k.pic) != len(k.text) {
			t.Fatalf("%q has %d bytes, its picture %d", k.text, len(k.text), len(k.pic))
		}
	}
	check := func(l ...kind) {
		for _, end := range []string{"\n", "\r\n"} {
			for _, last := range []bool{true, false} {
				text, want := together(l, end, last)
				hold(t, text, want)
				if got := drawn(text); got != want {
					t.Fatalf("the second reader's picture of %q: %s, not %s", text, got, want)
				}
			}
		}
	}
	for _, a := range kinds {
		check(a)
		for _, b := range kinds {
			check(a, b)
			for _, c := range kinds {
				check(a, b, c)
			}
		}
	}
	r := rand.New(rand.NewSource(12))
	for range 10000 {
		l := make([]kind, 4+r.Intn(12))
		for i := range l {
			l[i] = kinds[r.Intn(len(kinds))]
		}
		check(l...)
	}
}

// each puts together all texts of at most n of some pieces.
func each(n int, pieces []string, do func(text string)) {
	var grow func(text string, n int)
	grow = func(text string, n int) {
		do(text)
		if n == 0 {
			return
		}
		for _, p := range pieces {
			grow(text+p, n-1)
		}
	}
	grow("", n)
}

func TestAllSmallTexts(t *testing.T) {
	both := func(text string) {
		hold(t, text, drawn(text))
	}
	each(6, strings.Split("`|\\|a|\n", "|"), both)
	each(7, strings.Split("](|(|)|\\|]", "|"), both)
	each(6, strings.Split("<|a|:|>|-|!", "|"), both)
	each(5, strings.Split("<!--|-->|-|>|<|!|\n", "|"), both)
	each(5, strings.Split("<a|b:| |alt='|'|\"|>|\n", "|"), both)
	each(4, strings.Split("\\|`|``|](|)|<|>|ab:|<!--|-->|<b alt='|'|\n|a", "|"), both)
}

func TestAllSmallLines(t *testing.T) {
	both := func(text string) {
		hold(t, text, drawn(text))
	}
	each(5, strings.Split("   | |\t|```|~~~|`|a|\n", "|"), both)
	each(5, strings.Split("---|\n|    a|-| |\r|a", "|"), both)
	each(6, strings.Split("[|]|:|a|   |\t|\n", "|"), both)
	each(5, strings.Split("```\n|~~~~\n|~~~ \n|``` a\n|\n|    a\n|a\n|\tb\n", "|"), both)
	each(5, strings.Split("---\n|\n|    a\n|~~~\n|a\n|---", "|"), both)
}

func TestEveryByteInEveryRole(t *testing.T) {
	shapes := []string{
		"@", "@@", "a@", "@a", "@@@", "@@@\nb\n@@@\nc", "a@b`c`", "\\@`b`", "`@`", "`a@", "@a`", "``@`a``", "](@)", "](@", "]@b)", "@(b)", "](b@", "](\\@)c)", "](b\\@c)", "](@b)c)", "](b)@",
		"<@", "<@>", "<a@>", "<@b:c>", "<a@:c>", "<ab@c>", "<ab@/alt='c'>", "<ab:@/alt='c'>", "<ab:c@", "@ab:/alt='c'>", "<@ab:c>", "<ab:c@>", "<ab:c@/alt='d'>e>", "<\xc3@b:c>", "<\xc9@b:c>", "<a\xc3@:/alt='c'>",
		"<@--a-->", "<!@-a-->", "<!-@a-->", "<!--@-->", "<!--a@->", "<!--a-@>", "<!--a--@", "@!--a-->", "<!--@>a-->", "<!--a@b",
		"---@\na\n---", "---\na\n---@", "@---\na\n---", "--@\na\n---", "---@a\n---", "---\na\n@---\n---", "---\na\n--@\n---", "---\n---\n@    a",
		"```@\na\n```\nb", "```\na\n```@\nb", "```\na\n@```\nb", "```\na\n``@\nb", "``@\na\n``@\nb", "@```\na\n```\nb", " @```\na\n```\nb", "   @~~~\na\n~~~\nb", "~~~@\na\n~~~\nb", "~~~\na\n~~~@\nb", "~~~\n   @~~~\nb", "~~~\na\n@~~~\nb", "~~@\na\n~~~\nb", "```a@b\nc",
		"@    a", "a\n@    b", "a\n@\n    b", "    @", "   @a", "a\n   @b`c`", "  @ a", " @  a", "@   a", "    a\n@\n    b", "    a\n   @b\n    c", "```\n```\n@    b", "@\ta", "  @\ta",
		"[@]: b", "[a@: b", "[a]@ b", "@a]: b", "[@a]: b", "[a@]: b", "[a]:@", "   @[a]: b", " @[a]: b", "[@", "[a@b]: c", "[]@: b",
		"a\n@b", "a@\n    b", "a\n\n@\n    b", "\\@", "]@", "<b@c='>'>", "<b alt=@c'>", "<b alt='c@>", "<b alt='@'>",
	}
	for _, shape := range shapes {
		for c := range 256 {
			text := strings.ReplaceAll(shape, "@", string([]byte{byte(c)}))
			hold(t, text, drawn(text))
			hold(t, text+"\n", drawn(text+"\n"))
			hold(t, "a\n"+text+"\r\n", drawn("a\n"+text+"\r\n"))
		}
	}
}

// pieces are of all rules.
var pieces = []string{
	"a", "b c", " ", "  ", "   ", "    ", "\t", "\n", "\n", "\n\n", "\r\n", "\r", "---", "---\n", "--", "`", "``", "```", "````", "~~~", "~~~~", "~", "\\", "\\\\", "[", "]", "](", "[a]:", "(", ")", ":", "<", ">", "<ab:", "<http://x>", "<b>", "</b>", "<b alt='", "title=\"x\"", "'", "\"", "<!--", "-->", "<!-->", "-", "!", "/", "1", "\u00e4", "\xff", "\x00", "\f",
}

func TestPiecesPutTogether(t *testing.T) {
	r := rand.New(rand.NewSource(13))
	for range 60000 {
		var text strings.Builder
		for range r.Intn(30) {
			text.WriteString(pieces[r.Intn(len(pieces))])
		}
		hold(t, text.String(), drawn(text.String()))
	}
	for range 30 {
		var text strings.Builder
		for n := r.Intn(20000); text.Len() < n; {
			text.WriteString(pieces[r.Intn(len(pieces))])
		}
		hold(t, text.String(), drawn(text.String()))
	}
}

func TestAnyBytes(t *testing.T) {
	r := rand.New(rand.NewSource(14))
	for range 3000 {
		b := make([]byte, r.Intn(200))
		for i := range b {
			b[i] = byte(r.Intn(256))
		}
		hold(t, string(b), drawn(string(b)))
	}
	for _, text := range []string{"\xff", "\xff\n\xfe", "\xc3\n\xa4", "\xc3`\xa4`", "\xe2\x82\n    \xac", "\xf0\x9f](\x98)\x80", "\xed\xa0\x80", "\x80<b>\x80", "\x00", "\x00\n\x00"} {
		hold(t, text, drawn(text))
	}
}

// pair is a text and its picture.
type pair [2]string

func (p pair) times(n int) pair {
	return pair{strings.Repeat(p[0], n), strings.Repeat(p[1], n)}
}

// filled is a file of n bytes: bytes that are prose, one text, another one as often as there is room, a last one.
func filled(n int, ahead, piece, behind pair) pair {
	room := n - len(ahead[0]) - len(behind[0])
	prose := pair{"x", "."}.times(room % len(piece[0]))
	all := piece.times(room / len(piece[0]))
	return pair{prose[0] + ahead[0] + all[0] + behind[0], prose[1] + ahead[1] + all[1] + behind[1]}
}

func TestWholeFiles(t *testing.T) {
	none := pair{}
	for _, c := range [][3]pair{
		{none, {"a", "."}, none},
		{none, {"\n", "."}, none},
		{none, {"a\n", ".."}, none},
		{none, {" ", "."}, none},
		{{"\n", "."}, {" ", "."}, none},
		{none, {"\xff", "."}, none},
		{none, {"\x00\n", ".."}, none},
		{none, {"\\", "."}, none},
		{none, {"]", "."}, none},
		// Fences, fronts, indents, definitions.
		{{"\n~~~", ".ccc"}, {"\n~~", "ccc"}, none},
		{{"\n~~~\n", ".cccc"}, {"~~\n", "ccc"}, {"~~~\na", "cccc."}},
		{{"\n", "."}, {"```\n\n~~~\n```\n\n", "ccccccccccccc."}, none},
		{{"\n\n", ".."}, {"    a\n", "cccccc"}, none},
		{{"\n\n", ".."}, {"    a\n\n", "cccccc."}, none},
		{{"\n\n", ".."}, {"\ta\n \n", "ccc.."}, none},
		{{"a\n", ".."}, {"    a\n", "......"}, none},
		{{"\n[", ".m"}, {"a", "m"}, {"]: b", "mmmm"}},
		{{"\n[", ".."}, {"a", "."}, {"]", "."}},
		{{"\n", "."}, {"[a]:\n", "mmmmm"}, none},
		// Ticks.
		{{"a", "."}, {"`", "."}, none},
		{{"a", "."}, {"`b`c", "ccc."}, {"`", "."}},
		{{"a", "."}, {"\\``", "..."}, none},
		{{"a", "."}, {"\\`` ", "...."}, {"```", "..."}},
		{{"a`` ", ".ccc"}, {"` ``` ", "cccccc"}, {"``", "cc"}},
		// Brackets.
		{none, {"](", ".."}, none},
		{none, {"](a)", ".mmm"}, none},
		{{"](", ".."}, {"](a)", ".mmm"}, none},
		{{"](", ".m"}, {"(a)", "mmm"}, {")", "m"}},
		{{"](", ".m"}, {"\\)", "mm"}, {")", "m"}},
		{{"](", ".."}, {"()", ".."}, none},
		{none, {"]((", "..."}, none},
		// Links, remarks, tags.
		{none, {"<", "."}, none},
		{none, {"<a", ".."}, none},
		{{"<a ", "mmm"}, {"<a ", "mmm"}, {">", "m"}},
		{none, {"<a>", "mmm"}, none},
		{none, {"<ab:", "...."}, none},
		{none, {"<ab:>", "mmmmm"}, none},
		{{"<ab:", "mmmm"}, {"c", "m"}, {">", "m"}},
		{{"<", "m"}, {"ab", "mm"}, {":>", "mm"}},
		{{"<ab", "mmm"}, {" alt='b'", "mmmmmm.m"}, {">", "m"}},
		{{"<ab", "..."}, {" alt='b'", "........"}, none},
		{none, {"<!--", "...."}, none},
		{none, {"<!--", "...."}, {" ->", "..."}},
		{{"<!--", "rrrr"}, {"<!--", "rrrr"}, {"-->", "rrr"}},
		{{"<!--", "rrrr"}, {"-", "r"}, {"->", "rr"}},
		{none, {"<!---->", "rrrrrrr"}, none},
	} {
		f := filled(top, c[0], c[1], c[2])
		hold(t, f[0], f[1])
		f = filled(300, c[0], c[1], c[2])
		hold(t, f[0], f[1])
		if got := drawn(f[0]); got != f[1] {
			t.Fatalf("the second reader's picture of %q: %s, not %s", f[0], got, f[1])
		}
	}
	hold(t, "---\n"+strings.Repeat("a\n", (top-8)/2)+"---\n", strings.Repeat("c", top))
	hold(t, "---\n"+strings.Repeat("a", top-8)+"\n---", strings.Repeat("c", top))
	hold(t, "---"+strings.Repeat(" ", top-7)+"\n---", strings.Repeat("c", top))
	hold(t, "---\n"+strings.Repeat("-\n", (top-4)/2), strings.Repeat(".", top))
	hold(t, strings.Repeat("`", top), strings.Repeat("c", top))
	hold(t, "~~~"+strings.Repeat("\n", top-3), strings.Repeat("c", top))
}

func TestTooManyBytes(t *testing.T) {
	for _, piece := range []string{"a", "`", "\n", "<", "](a)", "```\n", "    a\n", "\xff", "---\n"} {
		all := bytes.Repeat([]byte(piece), top+2)
		for _, n := range []int{top - 1, top} {
			s, e := Lex(all[:n])
			if e != api.OK || s.Len() != n {
				t.Errorf("P12.1: Lex of %d bytes: %d, %d", n, s.Len(), e)
			}
		}
		for _, n := range []int{top + 1, top + 2, len(all)} {
			if s, e := Lex(all[:n]); s != nil || e != api.ErrRange {
				t.Errorf("P12.1, R3: Lex of %d bytes: %v, %d, not nil, %d", n, s, e, api.ErrRange)
			}
		}
	}
}

func TestNoBytes(t *testing.T) {
	for _, b := range [][]byte{nil, {}, make([]byte, 0, 9)} {
		s, e := Lex(b)
		if s == nil || e != api.OK || s.Len() != 0 || len(s.Segs()) != 0 {
			t.Errorf("P12.1: Lex(%v): %v, %d", b, s, e)
		}
	}
}

// scenes are files with something of all rules.
var scenes = []string{
	"---\ntitle: a\n---\n\n# b `c` \\` [d](e(f)) <gg:h> <!--i--> <j alt='k'>\n\n    l\n\n    m\n```n\no\n````\n[p]: q\n~~~\nr",
	"---\na\n```\n[b](c\n`d\n<e\n<!--f\n    g\n\n\th\r\n~~~~ i\r\n~~~\r\n~~~~\r\n    j",
	"[a]: b\n    c\n \n    d\n    \n\te\nf ``g`h`` i\\\nj ](k\\)l) m",
}

func TestSpareRoomIsNotRead(t *testing.T) {
	for _, full := range scenes {
		for n := range len(full) + 1 {
			b := []byte(full)
			s, e := Lex(b[:n])
			if e != api.OK || picture(s) != drawn(full[:n]) {
				t.Fatalf("R6: Lex(%q), room behind it: %s, %d", full[:n], picture(s), e)
			}
			if string(b) != full {
				t.Fatalf("R6: the bytes or the room behind %q are changed: %q", full[:n], b)
			}
		}
	}
}

func TestAnswersAreNewMemory(t *testing.T) {
	for _, full := range scenes {
		b := []byte(full)
		s, _ := Lex(b)
		o, _ := Lex(b)
		p := picture(o)
		s.Set(api.Raw, 0, s.Len())
		clear(b)
		if picture(o) != p || p != drawn(full) {
			t.Errorf("R6: a sheet is changed with another one, or with the bytes: %s", picture(o))
		}
	}
}

func TestAnswersHangOnArgumentsAlone(t *testing.T) {
	texts := slices.Concat(scenes, []string{"", "```", "    a", "`a", "---\n---\n", "<a"})
	var first []string
	for round := range 3 {
		for i, text := range texts {
			told := fmt.Sprint(picture(lexed(t, text)))
			if round == 0 {
				first = append(first, told)
			}
			if told != first[i] {
				t.Errorf("R8: %q: %s, not %s", text, told, first[i])
			}
		}
		slices.Reverse(texts)
		slices.Reverse(first)
	}
}

func FuzzLex(f *testing.F) {
	for _, s := range scenes {
		f.Add(s)
	}
	for _, p := range pieces {
		f.Add(p)
	}
	f.Fuzz(func(t *testing.T, text string) {
		if len(text) > top {
			return
		}
		hold(t, text, drawn(text))
	})
}
