package src

import (
	"bytes"
	"math/rand"
	"regexp"
	"slices"
	"strings"
	"testing"

	"redpen/api"
	"redpen/label"
	"redpen/span"
)

const top = api.MaxFile

// formats are those that have a family.
var formats = []api.Format{api.CLike, api.GoLike, api.Python, api.Shell, api.Sql}

// pictures are signs for the labels, by their numbers.
const pictures = "0.mrcq*w"

// picture has a sign for each byte's label: a dot for Prose, r for Remark, c for Code, q for Quoted, * for Opaque, w for Raw.
func picture(s *label.Sheet) string {
	var p strings.Builder
	for i := range s.Len() {
		p.WriteByte(pictures[s.At(i)])
	}
	return p.String()
}

// pair is a text and its picture.
type pair [2]string

func (p pair) times(n int) pair {
	return pair{strings.Repeat(p[0], n), strings.Repeat(p[1], n)}
}

func (p pair) then(o pair) pair {
	return pair{p[0] + o[0], p[1] + o[1]}
}

// lexed is Lex's answer for bytes that aren't too many.
func lexed(t *testing.T, f api.Format, text string) *label.Sheet {
	t.Helper()
	b := []byte(text)
	s, e := Lex(f, b)
	if s == nil || e != api.OK {
		t.Fatalf("P14.1: Lex(%d, %.200q): %v, %d", f, text, s, e)
	}
	if string(b) != text {
		t.Fatalf("R6: Lex(%d, %.200q) changed the bytes", f, text)
	}
	if s.Len() != len(text) {
		t.Fatalf("P3: Lex(%d, %.200q): %d bytes of %d", f, text, s.Len(), len(text))
	}
	return s
}

// hold holds Lex against a picture.
func hold(t *testing.T, f api.Format, text, want string) {
	t.Helper()
	s := lexed(t, f, text)
	if got := picture(s); got != want {
		t.Fatalf("P14.1: Lex(%d, %.300q):\n%.300s, not\n%.300s", f, text, got, want)
	}
	lossless(t, s, f, text)
}

// may are the labels that a format's files have.
var may = map[api.Format]string{
	api.CLike:  ".rcq",
	api.GoLike: ".rcqw",
	api.Python: ".rcq",
	api.Shell:  ".rcqw",
	api.Sql:    ".rcq*w",
}

// lossless holds the parts of a sheet against its bytes.
func lossless(t *testing.T, s *label.Sheet, f api.Format, text string) {
	t.Helper()
	var spans []api.Span
	for _, g := range s.Segs() {
		spans = append(spans, g.Span)
		if g.Label > api.Raw || strings.IndexByte(may[f], pictures[g.Label]) < 0 {
			t.Fatalf("P3: Lex(%d, %.200q): the label %d", f, text, g.Label)
		}
	}
	if !span.Cover(spans, len(text)) {
		t.Fatalf("P3: Lex(%d, %.200q): the parts are not all of %d bytes, side by side", f, text, len(text))
	}
}

// rule is a pattern for what begins at a place, and the signs of its groups' labels.
type rule struct {
	pattern *regexp.Regexp
	signs   string
}

// A second reader: each format's patterns, the first of which that fits is taken.
var rules = map[api.Format][]rule{
	api.CLike: {
		{regexp.MustCompile(`\A(//)([^\n]*)`), "r."},
		{regexp.MustCompile(`(?s)\A(/\*)(.*?)(\*/|\z)`), "r.r"},
		{regexp.MustCompile(`\A(")((?:\\[^\n]|[^"\\\n])*\\?)("?)`), "cqc"},
		{regexp.MustCompile(`\A(')((?:\\[^\n]|[^'\\\n])*\\?)('?)`), "cqc"},
	},
	api.GoLike: {
		{regexp.MustCompile(`\A(//)([^\n]*)`), "r."},
		{regexp.MustCompile(`(?s)\A(/\*)(.*?)(\*/|\z)`), "r.r"},
		{regexp.MustCompile(`\A(")((?:\\[^\n]|[^"\\\n])*\\?)("?)`), "cqc"},
		{regexp.MustCompile(`\A(')((?:\\[^\n]|[^'\\\n])*\\?)('?)`), "cqc"},
		{regexp.MustCompile("\\A(`)([^`]*)(`?)"), "cwc"},
	},
	api.Python: {
		{regexp.MustCompile(`\A(#)([^\n]*)`), "r."},
		{regexp.MustCompile(`(?s)\A(""")((?:\\.|[^\\])*?(?:\\?\z)?)("""|\z)`), "cqc"},
		{regexp.MustCompile(`(?s)\A(''')((?:\\.|[^\\])*?(?:\\?\z)?)('''|\z)`), "cqc"},
		{regexp.MustCompile(`\A(")((?:\\[^\n]|[^"\\\n])*\\?)("?)`), "cqc"},
		{regexp.MustCompile(`\A(')((?:\\[^\n]|[^'\\\n])*\\?)('?)`), "cqc"},
	},
	api.Shell: {
		{regexp.MustCompile(`(?s)\A(")((?:\\.|[^"\\])*\\?)("?)`), "cqc"},
		{regexp.MustCompile(`\A(')([^']*)('?)`), "cwc"},
	},
	api.Sql: {
		{regexp.MustCompile(`\A(--)([^\n]*)`), "r."},
		{regexp.MustCompile(`\A(')((?:[^']|'')*)('?)`), "cqc"},
		{regexp.MustCompile(`\A(")((?:[^"]|"")*)("?)`), "cwc"},
	},
}

var (
	plain = rule{regexp.MustCompile("\\A([^/\"'`#-]+)"), "c"}
	other = rule{regexp.MustCompile(`(?s)\A(.)`), "c"}
	hash  = rule{regexp.MustCompile(`\A(#)([^\n]*)`), "r."}
	marks = regexp.MustCompile(`/\*|\*/`)
)

// of is the picture of what a text begins with, if the pattern fits.
func (r rule) of(text string) string {
	var p string
	m := r.pattern.FindStringSubmatch(text)
	for i := 1; i < len(m); i++ {
		p += strings.Repeat(r.signs[i-1:i], len(m[i]))
	}
	return p
}

// drawn is the picture that Lex's answer must have.
func drawn(f api.Format, text string) string {
	var p strings.Builder
	for p.Len() < len(text) {
		rest := text[p.Len():]
		if f == api.Sql && strings.HasPrefix(rest, "/*") {
			p.WriteString(nestDrawn(rest))
			continue
		}
		l := []rule{plain}
		if f == api.Shell && (p.Len() == 0 || strings.Contains(" \t\r\n;", text[p.Len()-1:p.Len()])) {
			l = append(l, hash)
		}
		for _, r := range append(append(l, rules[f]...), other) {
			if more := r.of(rest); more != "" {
				p.WriteString(more)
				break
			}
		}
	}
	return p.String()
}

// nestDrawn is the picture of remarks within one another, which a text begins with.
func nestDrawn(text string) string {
	var p strings.Builder
	for deep := 0; ; {
		m := marks.FindStringIndex(text[p.Len():])
		if m == nil {
			return p.String() + strings.Repeat(".", len(text)-p.Len())
		}
		p.WriteString(strings.Repeat(".", m[0]))
		if text[p.Len()] == '*' {
			deep--
		} else {
			deep++
		}
		if deep > 32 {
			return p.String() + strings.Repeat("*", len(text)-p.Len())
		}
		p.WriteString("rr")
		if deep == 0 {
			return p.String()
		}
	}
}

// holdBoth holds Lex, and the second reader, against a picture.
func holdBoth(t *testing.T, f api.Format, c pair) {
	t.Helper()
	text, want := c[0], c[1]
	if len(text) != len(want) {
		t.Fatalf("%q has %d bytes, its picture %d: %s", text, len(text), len(want), want)
	}
	hold(t, f, text, want)
	if got := drawn(f, text); got != want {
		t.Fatalf("the second reader's picture of %d, %.300q: %.300s, not %.300s", f, text, got, want)
	}
}

// aheads are things that end by themselves, behind which anything may begin.
var aheads = map[api.Format][]pair{
	api.CLike:  {{"a", "c"}, {"\n", "c"}, {"\u00e4\xff\x00", "cccc"}, {"//a\n", "rr.c"}, {"/*a*/", "rr.rr"}, {"\"a\"", "cqc"}, {"'\\''", "cqqc"}, {"\"a\n", "cqc"}, {"*/ ", "ccc"}, {"#`\\", "ccc"}},
	api.GoLike: {{"a", "c"}, {"\n", "c"}, {"\u00e4\xff\x00", "cccc"}, {"//a\n", "rr.c"}, {"/*a*/", "rr.rr"}, {"\"a\"", "cqc"}, {"'\\''", "cqqc"}, {"\"a\n", "cqc"}, {"*/ ", "ccc"}, {"#\\", "cc"}, {"`a\n`", "cwwc"}},
	api.Python: {{"a", "c"}, {"\n", "c"}, {"\u00e4\xff\x00", "cccc"}, {"#a\n", "r.c"}, {"\"a\"", "cqc"}, {"'\\''", "cqqc"}, {"\"a\n", "cqc"}, {"\"\"\"a\n\"\"\"", "cccqqccc"}, {"'''a'''", "cccqccc"}, {"/*//--`\\", "cccccccc"}},
	api.Shell:  {{"a ", "cc"}, {"\n", "c"}, {"\u00e4\xff\x00\t", "ccccc"}, {"#a\n", "r.c"}, {"\"a\\\"\n\";", "cqqqqcc"}, {"'a\n'\r", "cwwcc"}, {"a#b;", "cccc"}, {"/*//--`\\ ", "ccccccccc"}},
	api.Sql:    {{"a", "c"}, {"\n", "c"}, {"\u00e4\xff\x00", "cccc"}, {"--a\n", "rr.c"}, {"/*a/*b*/c*/", "rr.rr.rr.rr"}, {"'a''b' ", "cqqqqcc"}, {"\"a\n\" ", "cwwcc"}, {"*/ ", "ccc"}, {"- ", "cc"}, {"#`\\", "ccc"}},
}

// behinds are things that are the same behind whatever has ended.
var behinds = map[api.Format][]pair{
	api.CLike:  {{" a", "cc"}, {"\n", "c"}, {" //a", "crr."}, {" /*a", "crr."}, {" \"a\"", "ccqc"}, {" 'a", "ccq"}, {"\xff", "c"}},
	api.GoLike: {{" a", "cc"}, {"\n", "c"}, {" //a", "crr."}, {" /*a", "crr."}, {" \"a\"", "ccqc"}, {" 'a", "ccq"}, {" `a", "ccw"}, {"\xff", "c"}},
	api.Python: {{" a", "cc"}, {"\n", "c"}, {" #a", "cr."}, {"#a", "r."}, {" \"a\"", "ccqc"}, {" '''a", "ccccq"}, {"\xff", "c"}},
	api.Shell:  {{" a", "cc"}, {"\n", "c"}, {" #a", "cr."}, {".#a", "ccc"}, {" \"a\"", "ccqc"}, {" 'a", "ccw"}, {"\xff", "c"}},
	api.Sql:    {{" a", "cc"}, {"\n", "c"}, {" --a", "crr."}, {" /*a", "crr."}, {" \"a\"", "ccwc"}, {" 'a", "ccq"}, {"\xff", "c"}},
}

// holdAll holds texts of some formats against their pictures, with other things ahead of them.
func holdAll(t *testing.T, some []api.Format, l []pair) {
	t.Helper()
	for _, f := range some {
		for _, c := range l {
			holdBoth(t, f, c)
			for _, a := range aheads[f] {
				holdBoth(t, f, a.then(c))
			}
		}
	}
}

// holdShut holds texts that end by themselves: what stands behind them is what it is.
func holdShut(t *testing.T, some []api.Format, l []pair) {
	t.Helper()
	holdAll(t, some, l)
	for _, f := range some {
		for _, c := range l {
			for _, b := range behinds[f] {
				holdBoth(t, f, c.then(b))
			}
		}
	}
}

// with has other marks in the texts, each as long as the one that it stands for.
func with(l []pair, marks ...string) []pair {
	swap := strings.NewReplacer(marks...)
	var o []pair
	for _, c := range l {
		o = append(o, pair{swap.Replace(c[0]), c[1]})
	}
	return o
}

var (
	slashed = []api.Format{api.CLike, api.GoLike}
	starred = []api.Format{api.CLike, api.GoLike, api.Sql}
	python  = []api.Format{api.Python}
	shell   = []api.Format{api.Shell}
	sql     = []api.Format{api.Sql}
)

func TestExample(t *testing.T) {
	text := "x // y"
	want := []api.Seg{
		{Label: api.Code, Span: api.Span{At: 0, Len: 2}},
		{Label: api.Remark, Span: api.Span{At: 2, Len: 2}},
		{Label: api.Prose, Span: api.Span{At: 4, Len: 2}},
	}
	if got := lexed(t, api.GoLike, text).Segs(); !slices.Equal(got, want) {
		t.Errorf("P14.1: Lex(GoLike, %q): %v, not %v", text, got, want)
	}
	holdBoth(t, api.GoLike, pair{text, "ccrr.."})
}

func TestCodeAlone(t *testing.T) {
	holdShut(t, formats, []pair{
		{"a", "c"},
		{"a b\n\tc;\r\n", "ccccccccc"},
		{"(){}[]<>=+*%&|^!~?:,.@$_\\", strings.Repeat("c", 25)},
		{"\\\\", "cc"},
		{"\u00e4\u20ac\U0001f600", strings.Repeat("c", 9)},
		{"\xff\xc3\x00", "ccc"},
		{"- -", "ccc"},
		{"/ /", "ccc"},
		{"/ *", "ccc"},
		{"*/", "cc"},
		{"* /", "ccc"},
	})
	// Marks of the other families.
	holdShut(t, slashed, []pair{{"#a", "cc"}, {" #a", "ccc"}, {"--a", "ccc"}, {"-- a\n", "ccccc"}})
	holdShut(t, []api.Format{api.CLike, api.Python, api.Shell, api.Sql}, []pair{{"`a`", "ccc"}, {"`", "c"}, {"`a\n", "ccc"}})
	holdShut(t, []api.Format{api.Python, api.Shell}, []pair{{"//a", "ccc"}, {"/*a*/", "ccccc"}, {"/*", "cc"}, {"--a", "ccc"}})
	holdShut(t, sql, []pair{{"//a", "ccc"}, {"#a", "cc"}, {" #a", "ccc"}})
}

// remarks are remarks to the line's end, their mark written as //.
var remarks = []pair{
	{"//", "rr"},
	{"//a", "rr."},
	{"// a b", "rr...."},
	{"//\n", "rrc"},
	{"//a\n", "rr.c"},
	{"//a\r\n", "rr..c"},
	{"//a\r", "rr.."},
	{"//a\rb", "rr..."},
	{"//a\nb", "rr.cc"},
	{"//\n\n//", "rrccrr"},
	{"//a\n//b\nc", "rr.crr.cc"},
	{"//\"a\nb", "rr..cc"},
	{"//'a\nb", "rr..cc"},
	{"//`a\nb", "rr..cc"},
	{"//\"\"\"\nb", "rr...cc"},
	{"//'''\nb", "rr...cc"},
	{"//a\\\nb", "rr..cc"},
	{"//a/*b\nc", "rr....cc"},
	{"//a*/\nb", "rr...cc"},
	{"//\u00e4\xff\x00\nb", "rr....cc"},
	{"//a\v\f\u2028b", "rr......."},
}

func TestRemarksToTheLinesEnd(t *testing.T) {
	holdAll(t, slashed, remarks)
	holdAll(t, slashed, []pair{
		{"//a//b", "rr...."},
		{"///", "rr."},
		{"////", "rr.."},
		{"///a", "rr.."},
		{"///*a\nb", "rr...cc"},
		{"//*a*/\nb", "rr....cc"},
		{"//#--", "rr..."},
		{"/", "c"},
		{"a/b//c", "cccrr."},
		{"/ //a", "ccrr."},
		{"\\//a", "crr."},
		{"a / /b", "cccccc"},
	})
	holdAll(t, sql, with(remarks, "//", "--"))
	holdAll(t, sql, []pair{
		{"--a--b", "rr...."},
		{"---", "rr."},
		{"----a", "rr..."},
		{"-", "c"},
		{"a-b--c", "cccrr."},
		{"- --a", "ccrr."},
		{"\\--a", "crr."},
		{"--/*a\n*/", "rr...ccc"},
		{"--#//", "rr..."},
	})
	var short []pair
	for _, c := range remarks {
		short = append(short, pair{strings.ReplaceAll(c[0], "//", "#"), strings.ReplaceAll(c[1], "rr", "r")})
	}
	short = append(short, pair{"#a#b", "r..."}, pair{"##", "r."}, pair{"##a\n", "r..c"}, pair{"#!/a/b -c\nd", "r........cc"}, pair{"# #", "r.."})
	holdAll(t, []api.Format{api.Python, api.Shell}, short)
	holdAll(t, python, []pair{
		{"a#b", "cr."},
		{"\\#a", "cr."},
		{"\u00e4#a", "ccr."},
		{"\"a\"#b", "cqcr."},
	})
}

func TestWhereAShellsRemarkBegins(t *testing.T) {
	for c := range 256 {
		b := string([]byte{byte(c)})
		want := "ccc"
		switch c {
		case ' ', '\t', '\r', '\n', ';':
			want = "cr."
		case '"':
			want = "cqq"
		case '\'':
			want = "cww"
		}
		holdBoth(t, api.Shell, pair{"a" + b + "#b", "c" + want})
		if c == '#' {
			want = "r.."
		}
		holdBoth(t, api.Shell, pair{b + "#b", want})
	}
	holdAll(t, shell, []pair{
		{"#", "r"},
		{"#a", "r."},
		{"a#b", "ccc"},
		{"$#", "cc"},
		{"${#a}", "ccccc"},
		{"a##b", "cccc"},
		{"a #b", "ccr."},
		{"a# b", "cccc"},
		{"a# #b", "cccr."},
		{"a\v#b", "cccc"},
		{"a\f#b", "cccc"},
		{"a&#b", "cccc"},
		{"(#a", "ccc"},
		{"\\#a", "ccc"},
		{"\\ #a", "ccr."},
		{"\u00a0#a", "cccc"},
		// The byte ahead is a mark, whatever lies in the string.
		{"\" \"#a", "cqccc"},
		{"' '#a", "cwccc"},
		{"\"\"#a", "cccc"},
		{"\"\" #a", "cccr."},
		{"' #a'", "cwwwc"},
		{"\" #a\"", "cqqqc"},
		{"\"a\n#b\"#c", "cqqqqccc"},
	})
}

func TestRemarksBetween(t *testing.T) {
	holdShut(t, starred, []pair{
		{"/**/", "rrrr"},
		{"/*a*/", "rr.rr"},
		{"/* a b */", "rr.....rr"},
		{"/*a\n\nb*/", "rr....rr"},
		{"/*a\r\n*/", "rr...rr"},
		{"/***/", "rr.rr"},
		{"/****/", "rr..rr"},
		{"/*a* / */", "rr.....rr"},
		{"/*\"*/", "rr.rr"},
		{"/*'*/", "rr.rr"},
		{"/*`*/", "rr.rr"},
		{"/*--*/", "rr..rr"},
		{"/*--a\n*/", "rr....rr"},
		{"/*#*/", "rr.rr"},
		{"/*\\*/", "rr.rr"},
		{"/*\u00e4\xff\x00*/", "rr....rr"},
		{"/*a*/b*/", "rr.rrccc"},
		{"/*a*//*b*/", "rr.rrrr.rr"},
		{"/*a*/*/", "rr.rrcc"},
		{"/*a**/", "rr..rr"},
	})
	holdAll(t, starred, []pair{
		{"/*", "rr"},
		{"/*a", "rr."},
		{"/*a*", "rr.."},
		{"/*a/", "rr.."},
		{"/*/", "rr."},
		{"/*a* /", "rr...."},
		{"/*a\nb \"c\"", "rr......."},
		{"/*a*/b/*c", "rr.rrcrr."},
		{"/**//*", "rrrrrr"},
		{"/**/*", "rrrrc"},
		{"/**//", "rrrrc"},
	})
	holdShut(t, slashed, []pair{
		{"/*//*/", "rr..rr"},
		{"/*//a\n*/", "rr....rr"},
		{"/*/*/", "rr.rr"},
		{"/*a/*b*/", "rr....rr"},
		{"/*a/*b*/c*/", "rr....rrccc"},
		{"/*/**/*/", "rr..rrcc"},
		{"/*a*//b", "rr.rrcc"},
	})
	holdAll(t, slashed, []pair{
		{"/*a*///b", "rr.rrrr."},
		{"/**/ //*a*/", "rrrrcrr...."},
	})
	many := pair{"/*", "rr"}.then(pair{"/* ", "..."}.times(40)).then(pair{"*/", "rr"})
	holdShut(t, slashed, []pair{many, many.then(pair{" */", "ccc"}.times(3))})
}

func TestRemarksWithinOneAnother(t *testing.T) {
	holdShut(t, sql, []pair{
		{"/*a/*b*/c*/", "rr.rr.rr.rr"},
		{"/*/**/*/", "rrrrrrrr"},
		{"/*/**//**/*/", "rrrrrrrrrrrr"},
		{"/*a/*b*/c/*d*/e*/f", "rr.rr.rr.rr.rr.rrc"},
		{"/*/*/*a*/*/*/", "rrrrrr.rrrrrr"},
		{"/*--/*\n*/*/", "rr..rr.rrrr"},
		{"/*'/*'*/\"*/", "rr.rr.rr.rr"},
		{"/*/ * /**/*/", "rr....rrrrrr"},
		{"/*a/*b\n*/\n*/", "rr.rr..rr.rr"},
		{"/*/*a*/*/*/", "rrrr.rrrrcc"},
		// A byte is of one mark alone.
		{"/*/**/**/", "rrrrrr.rr"},
		{"/*//**/*/", "rr.rrrrrr"},
	})
	holdAll(t, sql, []pair{
		{"/*/*/", "rrrr."},
		{"/*/*", "rrrr"},
		{"/*/**/", "rrrrrr"},
		{"/*a/*b*/", "rr.rr.rr"},
		{"/*a/*b*/c\n'd' --e", "rr.rr.rr........."},
		{"/*a/*b*//*c", "rr.rr.rrrr."},
		{"/**/*/**/", "rrrrcrrrr"},
		{"/*/*a*/b*/c/*d", "rrrr.rr.rrcrr."},
	})
}

func TestHowDeepRemarksStand(t *testing.T) {
	open, shut := pair{"/*", "rr"}, pair{"*/", "rr"}
	for n := 1; n <= 32; n++ {
		down, up := open.times(n), shut.times(n-1)
		holdShut(t, sql, []pair{
			down.then(up).then(shut),
			down.then(up).then(shut).then(pair{"*/", "cc"}),
			pair{"/*a", "rr."}.times(n).then(pair{"\n", "."}).then(pair{"b*/", ".rr"}.times(n)),
			// One that has ended makes room for another.
			down.then(shut).then(open).then(shut).then(up),
		})
		holdAll(t, sql, []pair{
			down,
			down.then(up),
			down.then(pair{"a", "."}).then(up).then(pair{"b'c'\n", "....."}),
		})
	}
	for n := 1; n <= 40; n++ {
		down, more := open.times(32), pair{"/*", "**"}.times(n)
		holdAll(t, sql, []pair{
			down.then(more),
			down.then(pair{"a", "."}).then(more).then(pair{"*/", "**"}.times(32 + n)),
			down.then(more).then(pair{"*/", "**"}.times(32 + n)).then(pair{"a 'b' \"c\"\n--d\n/*e*/", strings.Repeat("*", 19)}),
		})
	}
	wide := open.then(open.then(shut).times(100)).then(shut)
	full := open.times(31).then(pair{"/*a*/", "rr.rr"}.times(100)).then(shut.times(31))
	holdShut(t, sql, []pair{wide, full, full.then(full), full.then(wide)})
	holdAll(t, sql, []pair{full.then(open.times(32)).then(pair{"/*a*/", "*****"})})
	// Half of a mark isn't one.
	deepest := open.times(32)
	holdAll(t, sql, []pair{
		deepest.then(pair{"/", "."}),
		deepest.then(pair{"*", "."}),
		deepest.then(pair{"// ", "..."}).then(shut.times(32)),
		deepest.then(pair{"/ *", "..."}).then(shut.times(32)).then(pair{"a", "c"}),
		deepest.then(pair{"//*", ".**"}).then(pair{"*/", "**"}.times(40)),
		deepest.then(pair{"*/*", "rr."}).then(shut.times(31)).then(pair{"a", "c"}),
	})
}

// escaped are strings with escapes that end by themselves, long or not.
var escaped = []pair{
	{"\"\"", "cc"},
	{"\"a\"", "cqc"},
	{"\"a b\"", "cqqqc"},
	{"\"\\\"\"", "cqqc"},
	{"\"\\\\\"", "cqqc"},
	{"\"\\\\\\\"\"", "cqqqqc"},
	{"\"a\\\"b\"", "cqqqqc"},
	{"\"\\n\\x41\"", "cqqqqqqc"},
	{"\"\\'\"", "cqqc"},
	{"\"'\"", "cqc"},
	{"\"'a'\"", "cqqqc"},
	{"\"'''\"", "cqqqc"},
	{"\"`\"", "cqc"},
	{"\"//\"", "cqqc"},
	{"\"/*\"", "cqqc"},
	{"\"*/\"", "cqqc"},
	{"\"--\"", "cqqc"},
	{"\" #\"", "cqqc"},
	{"\"\r\"", "cqc"},
	{"\"\\\r\"", "cqqc"},
	{"\"\u00e4\xff\x00\"", "cqqqqc"},
	{"\"\\\u00e4\"", "cqqqc"},
	{"\"\\\xff\"", "cqqc"},
	{"\"\\\x00\"", "cqqc"},
	{"\"a\"b\"c\"", "cqcccqc"},
	{"\"a\" \"\" \"b\"", "cqccccccqc"},
	{"\"a\"\"b\"", "cqccqc"},
	{"\\\"a\"", "ccqc"},
}

// unended are such strings that come to the end of all.
var unended = []pair{
	{"\"", "c"},
	{"\"a", "cq"},
	{"\"\\", "cq"},
	{"\"\\\"", "cqq"},
	{"\"a\\\"b", "cqqqq"},
	{"\"\\\\\\\"", "cqqqq"},
	{"\"a'", "cqq"},
	{"\"a\\'", "cqqq"},
	{"\"a//b/* #d", "cqqqqqqqqq"},
	{"\"a\"\"b", "cqccq"},
}

// cut are such strings that end ahead of a newline.
var cut = []pair{
	{"\"\n", "cc"},
	{"\"\n\n", "ccc"},
	{"\"a\n", "cqc"},
	{"\"a\nb", "cqcc"},
	{"\"a\r\nb", "cqqcc"},
	{"\"a\n\"b\"", "cqccqc"},
	{"\"\\\nb", "cqcc"},
	{"\"\\\n\"b\"", "cqccqc"},
	{"\"a\\\\\nb", "cqqqcc"},
	{"\"\\\"\nb", "cqqcc"},
	{"\"\\\r\nb", "cqqcc"},
	{"\"'\n'b'", "cqccqc"},
	{"\"\u00e4\xff\nb", "cqqqcc"},
}

func TestStringsWithEscapes(t *testing.T) {
	some := []api.Format{api.CLike, api.GoLike, api.Python}
	for _, marks := range [][]string{{}, {"\"", "'", "'", "\""}} {
		holdShut(t, some, with(escaped, marks...))
		holdShut(t, some, with(cut, marks...))
		holdAll(t, some, with(unended, marks...))
		holdAll(t, some, with([]pair{{"\"a\nb\"", "cqccc"}, {"\"\n\"", "ccc"}, {"\"\\\n\"", "cqcc"}, {"\"a\n\"\\", "cqccq"}}, marks...))
		// Three marks are no other mark here.
		holdShut(t, slashed, with([]pair{
			{"\"\"\"\"", "cccc"},
			{"\"\"\"\"\"\"", "cccccc"},
			{"\"\"\"a\"", "cccqc"},
			{"\"\"\"\n", "cccc"},
			{"\"\"\"a\n\"\"\"\n", "cccqccccc"},
		}, marks...))
	}
	holdShut(t, shell, escaped)
	holdAll(t, shell, unended)
	holdShut(t, shell, []pair{
		{"\"\n\"", "cqc"},
		{"\"a\nb\"", "cqqqc"},
		{"\"\\\n\"", "cqqc"},
		{"\"\\\r\n\"", "cqqqc"},
		{"\"\\\\\n\"", "cqqqc"},
		{"\"\\\n\\\"\n\"", "cqqqqqc"},
		{"\"a\n\nb\n#c\n\"", "cqqqqqqqqc"},
		{"\"$(a 'b')\"", "cqqqqqqqqc"},
		{"\"\"\"\"", "cccc"},
		{"\"\"\"a\n\"", "cccqqc"},
	})
	holdAll(t, shell, []pair{
		{"\"a\n", "cqq"},
		{"\"\\\n", "cqq"},
		{"\"a\nb\\", "cqqqq"},
		{"\"\"\"", "ccc"},
		{"\"a\n #b\n'", "cqqqqqqq"},
	})
}

func TestStringsOfThreeMarks(t *testing.T) {
	for _, marks := range [][]string{{}, {"\"", "'", "'", "\""}} {
		holdShut(t, python, with([]pair{
			{"\"\"\"a\"\"\"", "cccqccc"},
			{"\"\"\"\"\"\"", "cccccc"},
			{"\"\"\"a\"b\"\"\"", "cccqqqccc"},
			{"\"\"\"a\"\"b\"\"\"", "cccqqqqccc"},
			{"\"\"\"\"a\"\"\"", "cccqqccc"},
			{"\"\"\"\"\"a\"\"\"", "cccqqqccc"},
			{"\"\"\"\\\"\"\"\"", "cccqqccc"},
			{"\"\"\"\\\\\"\"\"", "cccqqccc"},
			{"\"\"\"a\\\"\"\"b\"\"\"", "cccqqqqqqccc"},
			{"\"\"\"a\"\\\"\"b\"\"\"", "cccqqqqqqccc"},
			{"\"\"\"\"\"\\\"\"\"\"", "cccqqqqccc"},
			{"\"\"\"a\nb\"\"\"", "cccqqqccc"},
			{"\"\"\"\n\n\"\"\"", "cccqqccc"},
			{"\"\"\"\\\n\"\"\"", "cccqqccc"},
			{"\"\"\"\r\n\"\"\"", "cccqqccc"},
			{"\"\"\"'''\"\"\"", "cccqqqccc"},
			{"\"\"\"'\"\"\"", "cccqccc"},
			{"\"\"\"#a\n#\"\"\"", "cccqqqqccc"},
			{"\"\"\"\u00e4\xff\x00\"\"\"", "cccqqqqccc"},
			{"\"\"\"\\\u00e4\"\"\"", "cccqqqccc"},
			{"\"\"\"a\"\"\" \"b\"", "cccqcccccqc"},
			{"\"\"\"a\"\"\"\"b\"", "cccqccccqc"},
			{"\"\"\"a\"\"\"b\"\"\"c\"\"\"", "cccqcccccccqccc"},
			{"\"\"\"a\"\"\"'''b'''", "cccqccccccqccc"},
			{"\"a\"\"\"\"b\"\"\"", "cqccccqccc"},
		}, marks...))
		holdAll(t, python, with([]pair{
			{"\"\"\"", "ccc"},
			{"\"\"\"a", "cccq"},
			{"\"\"\"a\"", "cccqq"},
			{"\"\"\"a\"\"", "cccqqq"},
			{"\"\"\"\"", "cccq"},
			{"\"\"\"\"\"", "cccqq"},
			{"\"\"\"\\", "cccq"},
			{"\"\"\"\\\"\"\"", "cccqqqq"},
			{"\"\"\"a\n#b\"\n", "cccqqqqqq"},
			{"\"\"\"'''", "cccqqq"},
			{"\"\"\"a\"\"\"\"", "cccqcccc"},
			{"\"\"\"a\"\"\"\"\"", "cccqccccc"},
			{"\"\"\"\"\"\"a\"", "cccccccc"},
			{"\"\"\"\"\"\"\"b", "cccccccq"},
			{"\"\"'", "ccc"},
			{"\"\"'a'", "cccqc"},
			{"\"\" \"", "cccc"},
			{"\"\"\n\"", "cccc"},
		}, marks...))
	}
}

// raw are strings that take nothing along.
var raw = []pair{
	{"``", "cc"},
	{"`a`", "cwc"},
	{"`\\`", "cwc"},
	{"`\\\\`", "cwwc"},
	{"`\\n`", "cwwc"},
	{"`a\nb`", "cwwwc"},
	{"`\\\n`", "cwwc"},
	{"`\n\n`", "cwwc"},
	{"`\r\n`", "cwwc"},
	{"`\"`", "cwc"},
	{"`\"a`", "cwwc"},
	{"`//`", "cwwc"},
	{"`/*`", "cwwc"},
	{"`--`", "cwwc"},
	{"` #`", "cwwc"},
	{"`\n#a`", "cwwwc"},
	{"`\u00e4\xff\x00`", "cwwwwc"},
	{"`a``b`", "cwccwc"},
	{"````", "cccc"},
	{"`a`b`c`", "cwcccwc"},
}

// rawUnended are such strings that come to the end of all.
var rawUnended = []pair{
	{"`", "c"},
	{"`a", "cw"},
	{"`\\", "cw"},
	{"`\n", "cw"},
	{"`a\n\"b\"//c", "cwwwwwwww"},
	{"```", "ccc"},
	{"`\\``", "cwcc"},
	{"`a``b", "cwccw"},
}

func TestRawStrings(t *testing.T) {
	holdShut(t, []api.Format{api.GoLike}, raw)
	holdAll(t, []api.Format{api.GoLike}, rawUnended)
	holdShut(t, []api.Format{api.GoLike}, []pair{{"`'`", "cwc"}, {"'`'", "cqc"}, {"'a`\n", "cqqc"}})
	holdShut(t, shell, with(raw, "`", "'"))
	holdAll(t, shell, with(rawUnended, "`", "'"))
	holdShut(t, shell, []pair{{"'`'", "cwc"}, {"'a'\"b\"", "cwccqc"}})
	// A backslash outside takes nothing along: what follows it begins a string.
	holdAll(t, shell, []pair{{"'a'\\''b'", "cwcccccc"}, {"\\'a", "ccw"}, {"\\\"a", "ccq"}})
}

// doubled are strings in which two marks in a row are of them.
var doubled = []pair{
	{"''", "cc"},
	{"'a'", "cqc"},
	{"''''", "cqqc"},
	{"''''''", "cqqqqc"},
	{"'a''b'", "cqqqqc"},
	{"'''a'", "cqqqc"},
	{"'a'''", "cqqqc"},
	{"'a''''b'", "cqqqqqqc"},
	{"'a' 'b'", "cqcccqc"},
	{"'a' ''", "cqcccc"},
	{"'' ''", "ccccc"},
	{"'a\nb'", "cqqqc"},
	{"'\n'", "cqc"},
	{"'\r\n'", "cqqc"},
	{"'\\'", "cqc"},
	{"'\\n'", "cqqc"},
	{"'\\\n'", "cqqc"},
	{"'\"'", "cqc"},
	{"'\"\"'", "cqqc"},
	{"'`'", "cqc"},
	{"'--'", "cqqc"},
	{"'\n--a\n'", "cqqqqqc"},
	{"'/*'", "cqqc"},
	{"'*/'", "cqqc"},
	{"'\u00e4\xff\x00'", "cqqqqc"},
	{"\\'a'", "ccqc"},
}

// doubledUnended are such strings that come to the end of all.
var doubledUnended = []pair{
	{"'", "c"},
	{"'a", "cq"},
	{"'''", "cqq"},
	{"'''''", "cqqqq"},
	{"'a''", "cqqq"},
	{"'a''b", "cqqqq"},
	{"'\\''", "cqqq"},
	{"'\\", "cq"},
	{"'a\n--b", "cqqqqq"},
	{"'\"", "cq"},
	{"'' '", "cccc"},
}

func TestDoubledStrings(t *testing.T) {
	holdShut(t, sql, doubled)
	holdAll(t, sql, doubledUnended)
	for _, l := range [][]pair{doubled, doubledUnended} {
		var named []pair
		for _, c := range with(l, "'", "\"", "\"", "'") {
			named = append(named, pair{c[0], strings.ReplaceAll(c[1], "q", "w")})
		}
		holdAll(t, sql, named)
	}
	holdShut(t, sql, []pair{
		{"'a'\"b\"", "cqccwc"},
		{"\"a\"'b'", "cwccqc"},
		{"''\"\"", "cccc"},
		{"\"a\"\"b\"", "cwwwwc"},
		{"\"a\n\"\"b\"", "cwwwwwc"},
	})
}

// each puts together all texts of at most n of some pieces.
func each(n int, pieces []string, do func(text string)) {
	var grow func(text string, n int)
	grow = func(text string, n int) {
		do(text)
		if n == 0 {
			return
		}
		for _, p := range pieces {
			grow(text+p, n-1)
		}
	}
	grow("", n)
}

func TestAllSmallTexts(t *testing.T) {
	for _, f := range formats {
		both := func(text string) {
			hold(t, f, text, drawn(f, text))
		}
		each(6, strings.Split("/|*|\n|a", "|"), both)
		each(6, strings.Split("\"|\\|\n|a", "|"), both)
		each(6, strings.Split("'|\"|\\|\n", "|"), both)
		each(5, strings.Split("\"\"\"|\"|'|\\|\n", "|"), both)
		each(5, strings.Split("#| |;|'|\n", "|"), both)
		each(5, strings.Split("--|-|'|''|\n", "|"), both)
		each(4, strings.Split("//|/*|*/|--|#| |\"|'|`|\\|\n|\xc3", "|"), both)
	}
	each(9, []string{"/*", "*/", "/", "*"}, func(text string) {
		hold(t, api.Sql, text, drawn(api.Sql, text))
	})
	each(9, []string{"\"", "\\", "'"}, func(text string) {
		hold(t, api.Python, text, drawn(api.Python, text))
	})
}

func TestEveryByteInEveryRole(t *testing.T) {
	shapes := []string{
		"@", "@@", "@@@", "@@@a@@@b", "a@b", "@a@b", "@a\n@b", "a@#b", "@ #b", "@\"a\"", "@'a'", "@//b", "@--b", "@/*b*/",
		"//@a\nb", "//a@b", "/@a\nb", "@/a\nb", "/@a*/b", "/*@*/b", "/*a@/b", "/*a*@b", "/*a@*/b", "/*a*/@b", "/*a/@b*/c*/d",
		"#@a\nb", "#a@b", " @a\nb", "--@a\nb", "-@a\nb", "@-a\nb", "--a@b",
		"\"@\"b", "\"a@b\"c", "\"a\\@b\"c", "\"a@\"b", "\"\\@\nb", "\"@\nb\"c", "\"a\"@b\"c", "\"@", "\"\\@", "\"\"@a\"b", "\"a\n@b\"c",
		"'@'b", "'a@b'c", "'a\\@b'c", "'a@'b", "'\\@\nb", "'@\nb'c", "'a'@b'c", "'@", "'\\@", "''@a'b", "'a\n@b'c",
		"`@`b", "`a@b`c", "`a\\@b`c", "`a`@b`c", "`@",
		"\"\"\"@\"\"\"b", "\"\"\"a\"@\"\"\"b", "\"\"\"a\\@\"\"\"b", "\"\"\"a\"\"@b\"\"\"c", "\"\"@a\"\"\"b", "\"\"\"a\"\"\"@b",
		"'''@'''b", "'''a'@'''b", "'''a\\@'''b", "'''a''@b'''c", "''@a'''b", "'''a'''@b",
	}
	for _, f := range formats {
		for _, shape := range shapes {
			for c := range 256 {
				text := strings.ReplaceAll(shape, "@", string([]byte{byte(c)}))
				hold(t, f, text, drawn(f, text))
				hold(t, f, "a\n"+text+"\n", drawn(f, "a\n"+text+"\n"))
			}
		}
	}
}

// pieces are of all families.
var pieces = []string{
	"a", "b c", " ", " ", ";", "\n", "\n", "\n", "\r\n", "\t", "1", "*", "/", "-", "//", "//d", "/*", "*/", "*/", "/*e*/", "--", "--f", "#", " #g", "##", "\"", "\"", "\"h\"", "\"\"", "\"\"\"", "\"\"\"i\"\"\"", "'", "'", "'j'", "''", "'''", "'''k'''", "`", "`l\n`", "\\", "\\\\", "\\\"", "\\'", "\\\n", "\u00e4", "\u20ac", "\xff", "\xc3", "\x00",
}

// joined puts together some of the pieces, till there are so many bytes.
func joined(r *rand.Rand, some []string, n int) string {
	var text strings.Builder
	for text.Len() < n {
		text.WriteString(some[r.Intn(len(some))])
	}
	return text.String()
}

func TestPiecesPutTogether(t *testing.T) {
	r := rand.New(rand.NewSource(14))
	// Much is swallowed by what doesn't end: without it, long files are gone through to their end.
	tame := []string{"a", "b c", " ", "\n", "\n", ";", "/", "-", " //d\n", "/*e\n*/", "--f\n", " #g\n", "\"h\\\"i\"\n", "'j'\n", "'k''l'\n", "\"\"\"m\n\"\"\"\n", "`n\n`\n", "\u00e4", "\xff"}
	for _, f := range formats {
		for range 8000 {
			text := joined(r, pieces, r.Intn(60))
			hold(t, f, text, drawn(f, text))
		}
		for range 12 {
			text := joined(r, tame, r.Intn(20000))
			hold(t, f, text, drawn(f, text))
		}
	}
	for range 4000 {
		text := joined(r, []string{"/*", "/*", "/*", "*/", "*/", "a", "/", "*"}, 60+r.Intn(300))
		hold(t, api.Sql, "/*"+text, drawn(api.Sql, "/*"+text))
	}
}

func TestAnyBytes(t *testing.T) {
	r := rand.New(rand.NewSource(15))
	for _, f := range formats {
		for range 1500 {
			b := make([]byte, r.Intn(200))
			for i := range b {
				b[i] = byte(r.Intn(256))
			}
			hold(t, f, string(b), drawn(f, string(b)))
		}
		for _, text := range []string{"\xff", "\xff\n\xfe", "\xc3\"\xa4\"", "\xe2\x82\n#\xac", "\xf0\x9f'\x98'\x80", "//\xed\xa0\x80\n", "\"\\\xc3\xa4\"", "\x00", "\x00\n\x00"} {
			hold(t, f, text, drawn(f, text))
		}
	}
}

// filled is a file of n bytes: code, one text, another one as often as there is room, a last one.
func filled(n int, ahead, piece, behind pair) pair {
	room := n - len(ahead[0]) - len(behind[0])
	code := pair{";", "c"}.times(room % len(piece[0]))
	return code.then(ahead).then(piece.times(room / len(piece[0]))).then(behind)
}

func TestWholeFiles(t *testing.T) {
	none, three := pair{}, pair{"\"\"\"", "ccc"}
	open, shut := pair{"/*", "rr"}, pair{"*/", "rr"}
	files := map[api.Format][][3]pair{
		api.CLike: {
			{none, {"//a\n", "rr.c"}, none},
			{{"//", "rr"}, {"/", "."}, none},
			{{"//", "rr"}, {"\"", "."}, {"\na", "cc"}},
			{open, {"/* ", "..."}, shut},
			{open, {"/* ", "..."}, none},
			{none, {"/*/*/", "rr.rr"}, none},
			{none, {"/*a*/", "rr.rr"}, none},
			{none, {"\"\n", "cc"}, none},
			{none, {"\"\\\n", "cqc"}, none},
			{{"\"", "c"}, {"\\\"", "qq"}, {"\"", "c"}},
			{{"\"", "c"}, {"\\\"", "qq"}, none},
			{{"'", "c"}, {"\"", "q"}, {"\na", "cc"}},
		},
		api.GoLike: {
			{{"`", "c"}, {"\\\n", "ww"}, {"`", "c"}},
			{{"`", "c"}, {"\\", "w"}, none},
			{none, {"`a`", "cwc"}, none},
			{open, {"\n", "."}, {"*/a", "rrc"}},
			{{"'", "c"}, {"\\'", "qq"}, {"'", "c"}},
		},
		api.Python: {
			{none, {"#a\n", "r.c"}, none},
			{{"#", "r"}, {"#", "."}, none},
			{three, {"\n\"\"", "qqq"}, {"a\"\"\"", "qccc"}},
			{three, {"\\\"", "qq"}, three},
			{three, {"\\\"", "qq"}, {"\"\"", "qq"}},
			{none, {"\"\"\"a\"\"\"", "cccqccc"}, none},
			{{"'''", "ccc"}, {"\"\"\"", "qqq"}, none},
			{none, {"\"\"\"\"\"\"", "cccccc"}, none},
			{none, {"'a'", "cqc"}, none},
		},
		api.Shell: {
			{none, {"#a\n", "r.c"}, none},
			{none, {";#\n", "crc"}, none},
			{{"a", "c"}, {"#", "c"}, none},
			{{"#", "r"}, {" #", ".."}, {"\na", "cc"}},
			{{"\"", "c"}, {"\\\"\n", "qqq"}, {"\"", "c"}},
			{{"\"", "c"}, {"\\\n", "qq"}, none},
			{{"'", "c"}, {"\\\n", "ww"}, {"'", "c"}},
			{{"'", "c"}, {"\"#", "ww"}, none},
		},
		api.Sql: {
			{none, {"--a\n", "rr.c"}, none},
			{{"--", "rr"}, {"-", "."}, none},
			{{"'", "c"}, {"''", "qq"}, {"'", "c"}},
			{{"'", "c"}, {"''", "qq"}, none},
			{{"\"", "c"}, {"\"\"\n'", "wwww"}, {"\"", "c"}},
			{none, {"'' ", "ccc"}, none},
			{none, {"/*/*a*/*/", "rrrr.rrrr"}, none},
			{open, {"/*a*/", "rr.rr"}, shut},
			{open, {"/*a*/", "rr.rr"}, none},
			{open.times(31), {"/**/", "rrrr"}, shut.times(31)},
			{open.times(32), {"/*", "**"}, none},
			{open.times(32).then(pair{"/*", "**"}), {"*/", "**"}, none},
		},
	}
	for _, f := range formats {
		for _, c := range slices.Concat(files[f], [][3]pair{{none, {"a", "c"}, none}, {none, {"\n", "c"}, none}, {none, {"\xff", "c"}, none}, {none, {"\\", "c"}, none}, {none, {"\x00a\n", "ccc"}, none}}) {
			whole := filled(top, c[0], c[1], c[2])
			hold(t, f, whole[0], whole[1])
			holdBoth(t, f, filled(300, c[0], c[1], c[2]))
		}
	}
}

func TestTooManyBytes(t *testing.T) {
	for _, f := range formats {
		for _, piece := range []string{"a", "\"", "'", "`", "\n", "\\", "/*", "#", "--", "//", "\xff"} {
			all := bytes.Repeat([]byte(piece), top+2)
			for _, n := range []int{top - 1, top} {
				if s, e := Lex(f, all[:n]); e != api.OK || s.Len() != n {
					t.Errorf("P14.1: Lex(%d) of %d bytes: %d, %d", f, n, s.Len(), e)
				}
			}
			for _, n := range []int{top + 1, top + 2, len(all)} {
				if s, e := Lex(f, all[:n]); s != nil || e != api.ErrRange {
					t.Errorf("P14.1, R3: Lex(%d) of %d bytes: %v, %d, not nil, %d", f, n, s, e, api.ErrRange)
				}
			}
		}
	}
}

func TestFormatsThatHaveNoFamily(t *testing.T) {
	for n := range 256 {
		f := api.Format(n)
		if n >= 4 && n <= 8 {
			if s, e := Lex(f, []byte("a")); s == nil || e != api.OK {
				t.Errorf("P14.1: Lex(%d, a): %v, %d", n, s, e)
			}
			continue
		}
		for _, b := range [][]byte{nil, {}, []byte("a // b"), []byte("\"\n#"), make([]byte, top), make([]byte, top+1)} {
			if s, e := Lex(f, b); s != nil || e != api.ErrRange {
				t.Errorf("P14.1, R3: Lex(%d) of %d bytes: %v, %d, not nil, %d", n, len(b), s, e, api.ErrRange)
			}
		}
	}
}

func TestNoBytes(t *testing.T) {
	for _, f := range formats {
		for _, b := range [][]byte{nil, {}, make([]byte, 0, 9)} {
			s, e := Lex(f, b)
			if s == nil || e != api.OK || s.Len() != 0 || len(s.Segs()) != 0 {
				t.Errorf("P14.1: Lex(%d, %v): %v, %d", f, b, s, e)
			}
		}
	}
}

// scenes are files with something of all families.
var scenes = []string{
	"a // b\n\"c\\\"d\" 'e' /*f/*g*/h*/ `i\nj` k\n",
	"#!l\nm=\"\"\"n\\\"\"\"o\n\"\"\" '''p''' # q\n\"r\\\ns\"",
	"t -- u\n'v''w' \"x\"\"y\" /* z /*",
	"if a; #b\n\"c\n#d\" 'e\\' f#g\n",
	strings.Repeat("/*", 34) + "a*/",
	"\"a\\", "'''", "\"\"\"a\"\"", "''", "/", "-", "#",
}

func TestSpareRoomIsNotRead(t *testing.T) {
	for _, f := range formats {
		for _, full := range scenes {
			for n := range len(full) + 1 {
				b := []byte(full)
				s, e := Lex(f, b[:n])
				if e != api.OK || picture(s) != drawn(f, full[:n]) {
					t.Fatalf("R6: Lex(%d, %q), room behind it: %s, %d", f, full[:n], picture(s), e)
				}
				if string(b) != full {
					t.Fatalf("R6: the bytes or the room behind %q are changed: %q", full[:n], b)
				}
			}
		}
	}
}

func TestWhatStandsAheadIsNotRead(t *testing.T) {
	// The byte ahead of a slice is none of its own.
	for _, ahead := range []string{" ", "\n", "a", "\"", "\\", "/", "*", "-", "'"} {
		for _, f := range formats {
			for _, text := range []string{"#a", "/a", "-a", "*/a", "\"a\"", "''"} {
				b := []byte(ahead + text)
				if s, e := Lex(f, b[1:]); e != api.OK || picture(s) != drawn(f, text) {
					t.Fatalf("R8: Lex(%d, %q), %q ahead of it: %s, %d", f, text, ahead, picture(s), e)
				}
			}
		}
	}
}

func TestAnswersAreNewMemory(t *testing.T) {
	for _, f := range formats {
		for _, full := range scenes {
			b := []byte(full)
			s, _ := Lex(f, b)
			o, _ := Lex(f, b)
			p := picture(o)
			s.Set(api.Raw, 0, s.Len())
			clear(b)
			if picture(o) != p || p != drawn(f, full) {
				t.Errorf("R6: a sheet is changed with another one, or with the bytes: %s", picture(o))
			}
		}
	}
}

func TestAnswersHangOnArgumentsAlone(t *testing.T) {
	type asked struct {
		f    api.Format
		text string
	}
	var calls []asked
	for _, text := range scenes {
		for _, f := range formats {
			calls = append(calls, asked{f, text})
		}
	}
	first := map[asked]string{}
	for range 3 {
		for _, c := range calls {
			told := picture(lexed(t, c.f, c.text))
			if before, ok := first[c]; ok && told != before {
				t.Errorf("R8: %d, %q: %s, not %s", c.f, c.text, told, before)
			}
			first[c] = told
		}
		slices.Reverse(calls)
	}
}

func FuzzLex(f *testing.F) {
	for n := range formats {
		for _, s := range slices.Concat(scenes, pieces) {
			f.Add(uint8(n), s)
		}
	}
	f.Fuzz(func(t *testing.T, n uint8, text string) {
		if len(text) > top {
			return
		}
		kind := formats[int(n)%len(formats)]
		hold(t, kind, text, drawn(kind, text))
	})
}
