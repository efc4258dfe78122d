package html

import (
	"fmt"
	"math"
	"math/rand"
	"reflect"
	"regexp"
	"slices"
	"strings"
	"testing"

	"redpen/api"
	"redpen/label"
	"redpen/span"
)

const top = api.MaxFile

const (
	blanks  = " \t\n\r\f"
	letters = "abcdefghijklmnopqrstuvwxyzABCDEFGHIJKLMNOPQRSTUVWXYZ"
	signs   = letters + "0123456789-"
)

// edges are places at which an answer may turn.
var edges = []int{
	math.MinInt, math.MinInt + 1, math.MinInt + top, -top - 1, -top, -2, -1, 0, 1, 2, 3,
	top - 1, top, top + 1, 1 << 32, math.MaxInt - top, math.MaxInt - 1, math.MaxInt,
}

// pictures are signs for the labels, by their numbers.
const pictures = "0.mrcq*w"

// picture has a sign for each byte's label: a dot for Prose, m for Markup, r for Remark, c for Code, * for Opaque.
func picture(s *label.Sheet) string {
	var p strings.Builder
	for i := range s.Len() {
		p.WriteByte(pictures[s.At(i)])
	}
	return p.String()
}

func has(set string, c byte) bool {
	return strings.IndexByte(set, c) >= 0
}

func same(a, b Tag) bool {
	return a.End == b.End && a.Name == b.Name && a.Closes == b.Closes && slices.Equal(a.Prose, b.Prose)
}

// The states of a machine that reads a tag byte by byte.
const (
	opened = iota
	named
	between
	attributed
	passed
	equalled
	quoted
	unquoted
)

// machine is a second reader of tags, which looks at one byte after the other and never ahead.
type machine struct {
	tag   Tag
	state int
	name  []byte
	attr  []byte
	quote byte
	from  int
}

// machineRead is what Read must answer.
func machineRead(text string, at int) (Tag, bool) {
	if at < 0 || at >= len(text) || text[at] != '<' {
		return Tag{}, false
	}
	m := machine{state: opened}
	for i := at + 1; i < len(text); i++ {
		switch m.take(text[i], i) {
		case -1:
			return Tag{}, false
		case 1:
			m.tag.End, m.tag.Name = i+1, strings.ToLower(string(m.name))
			return m.tag, true
		}
	}
	return Tag{}, false
}

// take is told the next byte: 1, if the tag ends with it, -1, if there is none.
func (m *machine) take(c byte, i int) int {
	switch m.state {
	case opened:
		if c == '/' && !m.tag.Closes {
			m.tag.Closes = true
			return 0
		}
		if !has(letters, c) {
			return -1
		}
		m.name, m.state = []byte{c}, named
		return 0
	case named:
		if has(signs, c) {
			m.name = append(m.name, c)
			return 0
		}
		return m.begin(c)
	case between:
		return m.begin(c)
	case attributed:
		if has(blanks+"/>=", c) {
			return m.past(c)
		}
		m.attr = append(m.attr, c)
		return 0
	case passed:
		return m.past(c)
	}
	return m.takeValue(c, i)
}

// begin is told a byte where an attribute may begin.
func (m *machine) begin(c byte) int {
	m.state = between
	if c == '>' {
		return 1
	}
	if !has(blanks+"/", c) {
		m.attr, m.state = []byte{c}, attributed
	}
	return 0
}

// past is told a byte where an attribute's name is past.
func (m *machine) past(c byte) int {
	switch {
	case has(blanks, c):
		m.state = passed
		return 0
	case c == '=':
		m.state = equalled
		return 0
	}
	return m.begin(c)
}

// takeValue is told a byte behind an attribute's =.
func (m *machine) takeValue(c byte, i int) int {
	switch m.state {
	case equalled:
		if has(blanks, c) {
			return 0
		}
		if has(`"'`, c) {
			m.quote, m.from, m.state = c, i+1, quoted
			return 0
		}
		m.state = unquoted
		return m.takeValue(c, i)
	case quoted:
		if c != m.quote {
			return 0
		}
		m.state = between
		if seen[string(m.attr)] > 0 && i > m.from {
			m.tag.Prose = append(m.tag.Prose, api.Span{At: m.from, Len: i - m.from})
		}
		return 0
	}
	if has(blanks+">", c) {
		return m.begin(c)
	}
	return 0
}

// cases are a name's texts in all cases.
func cases(name string) []string {
	l := []string{""}
	for _, c := range name {
		var longer []string
		for _, s := range l {
			longer = append(longer, s+string(c), s+strings.ToUpper(string(c)))
		}
		l = longer
	}
	return l
}

// seen has the names of attributes that are read by people.
var seen = func() map[string]int {
	m := map[string]int{}
	for _, s := range slices.Concat(cases("alt"), cases("title")) {
		m[s] = 1
	}
	return m
}()

// closers find the closing tag of a name.
var closers = func() map[string]*regexp.Regexp {
	m := map[string]*regexp.Regexp{}
	for _, name := range []string{"script", "style", "textarea", "title"} {
		text := "</"
		for _, c := range name {
			text += "[" + string(c) + strings.ToUpper(string(c)) + "]"
		}
		m[name] = regexp.MustCompile(text + `(?:[ \t\n\r\f/>]|\z)`)
	}
	return m
}()

// drawn is the picture that Lex's answer must have.
func drawn(text string) string {
	var p []byte
	// up lays one sign on all up to behind a text, which is looked for behind so many bytes.
	up := func(sign string, skip int, shut string) {
		n := len(text)
		if i := strings.Index(text[len(p)+skip:], shut); i >= 0 {
			n = len(p) + skip + i + len(shut)
		}
		p = append(p, strings.Repeat(sign, n-len(p))...)
	}
	for len(p) < len(text) {
		switch rest := text[len(p):]; {
		case strings.HasPrefix(rest, "<!--"):
			up("r", 4, "-->")
		case strings.HasPrefix(rest, "<![CDATA["):
			up("*", 9, "]]>")
		case strings.HasPrefix(rest, "<!"), strings.HasPrefix(rest, "<?"):
			up("m", 2, ">")
		case opening.MatchString(rest):
			tag, ok := machineRead(text, len(p))
			if !ok {
				return string(p) + strings.Repeat("m", len(rest))
			}
			p = append(p, tagDrawn(len(p), tag)...)
			p = append(p, contentDrawn(text[len(p):], tag)...)
		default:
			p = append(p, '.')
		}
	}
	return string(p)
}

var opening = regexp.MustCompile(`\A</?[a-zA-Z]`)

func tagDrawn(at int, tag Tag) []byte {
	p := []byte(strings.Repeat("m", tag.End-at))
	for _, s := range tag.Prose {
		for i := range s.Len {
			p[s.At-at+i] = '.'
		}
	}
	return p
}

// contentDrawn is what stands ahead of a closing tag: nothing for most tags.
func contentDrawn(rest string, tag Tag) string {
	x := closers[tag.Name]
	if x == nil || tag.Closes {
		return ""
	}
	n := len(rest)
	if where := x.FindStringIndex(rest); where != nil {
		n = where[0]
	}
	if tag.Name[0] == 's' {
		return strings.Repeat("c", n)
	}
	return strings.Repeat(".", n)
}

// holdRead holds Read against the machine, and its inputs against R6.
func holdRead(t *testing.T, text string, at int) {
	t.Helper()
	b := []byte(text)
	tag, ok := Read(b, at)
	want, yes := machineRead(text, at)
	if ok != yes || !same(tag, want) {
		t.Fatalf("P11.1: Read(%q, %d): %+v, %v, not %+v, %v", text, at, tag, ok, want, yes)
	}
	if !ok && !reflect.DeepEqual(tag, Tag{}) {
		t.Fatalf("R3: Read(%q, %d): %+v beside false", text, at, tag)
	}
	if string(b) != text {
		t.Fatalf("R6: Read(%q, %d) changed the bytes: %q", text, at, b)
	}
}

// lexed is Lex's answer for bytes that aren't too many.
func lexed(t *testing.T, text string) *label.Sheet {
	t.Helper()
	b := []byte(text)
	s, e := Lex(b)
	if s == nil || e != api.OK {
		t.Fatalf("P11.2: Lex(%.200q): %v, %d", text, s, e)
	}
	if string(b) != text {
		t.Fatalf("R6: Lex(%.200q) changed the bytes", text)
	}
	if s.Len() != len(text) {
		t.Fatalf("P3: Lex(%.200q): %d bytes of %d", text, s.Len(), len(text))
	}
	return s
}

// holdLex holds Lex against a picture.
func holdLex(t *testing.T, text, want string) {
	t.Helper()
	s := lexed(t, text)
	if got := picture(s); got != want {
		t.Fatalf("P11.2: Lex(%.300q):\n%.300s, not\n%.300s", text, got, want)
	}
	lossless(t, s, text)
}

// lossless holds the parts of a sheet against its bytes.
func lossless(t *testing.T, s *label.Sheet, text string) {
	t.Helper()
	var spans []api.Span
	for _, g := range s.Segs() {
		spans = append(spans, g.Span)
		if g.Label < api.Prose || g.Label > api.Raw {
			t.Fatalf("P3: Lex(%.200q): the label %d", text, g.Label)
		}
	}
	if !span.Cover(spans, len(text)) {
		t.Fatalf("P3: Lex(%.200q): the parts are not all of %d bytes, side by side", text, len(text))
	}
}

func TestExample(t *testing.T) {
	text := `<b title="x">y</b>`
	s := lexed(t, text)
	want := []api.Seg{
		{Label: api.Markup, Span: api.Span{At: 0, Len: 10}},
		{Label: api.Prose, Span: api.Span{At: 10, Len: 1}},
		{Label: api.Markup, Span: api.Span{At: 11, Len: 2}},
		{Label: api.Prose, Span: api.Span{At: 13, Len: 1}},
		{Label: api.Markup, Span: api.Span{At: 14, Len: 4}},
	}
	if got := s.Segs(); !slices.Equal(got, want) {
		t.Errorf("P11.2: Lex(%q): %v, not %v", text, got, want)
	}
	tag, ok := Read([]byte(text), 0)
	if !ok || !same(tag, Tag{End: 13, Name: "b", Prose: []api.Span{{At: 10, Len: 1}}}) {
		t.Errorf("P11.1: Read(%q, 0): %+v, %v", text, tag, ok)
	}
	tag, ok = Read([]byte(text), 14)
	if !ok || !same(tag, Tag{End: 18, Name: "b", Closes: true}) {
		t.Errorf("P11.1: Read(%q, 14): %+v, %v", text, tag, ok)
	}
}

func spans(l ...int) []api.Span {
	var s []api.Span
	for i := 0; i < len(l); i += 2 {
		s = append(s, api.Span{At: l[i], Len: l[i+1]})
	}
	return s
}

func TestRead(t *testing.T) {
	for _, c := range []struct {
		text string
		want Tag
	}{
		{"<a>", Tag{3, "a", false, nil}},
		{"</a>", Tag{4, "a", true, nil}},
		{"<A>b", Tag{3, "a", false, nil}},
		{"<bX>", Tag{4, "bx", false, nil}},
		{"<Z->", Tag{4, "z-", false, nil}},
		{"</z>>", Tag{4, "z", true, nil}},
		{"<H1>", Tag{4, "h1", false, nil}},
		{"<x-Y-09>", Tag{8, "x-y-09", false, nil}},
		{"<a--9>", Tag{6, "a--9", false, nil}},
		// Blanks and / behind the name.
		{"<a/>", Tag{4, "a", false, nil}},
		{"<a//>", Tag{5, "a", false, nil}},
		{"<a / / >", Tag{8, "a", false, nil}},
		{"</a/>", Tag{5, "a", true, nil}},
		{"<a >", Tag{4, "a", false, nil}},
		{"<a\t>", Tag{4, "a", false, nil}},
		{"<a\n>", Tag{4, "a", false, nil}},
		{"<a\r>", Tag{4, "a", false, nil}},
		{"<a\f>", Tag{4, "a", false, nil}},
		{"<a \t\n\r\f>", Tag{8, "a", false, nil}},
		// What isn't of the name begins an attribute.
		{"<a_b>", Tag{5, "a", false, nil}},
		{"<a:title='x'>", Tag{13, "a", false, nil}},
		{"<a.b>", Tag{5, "a", false, nil}},
		{"<a\vb>", Tag{5, "a", false, nil}},
		{"<a\x00b>", Tag{5, "a", false, nil}},
		{"<a\xffb>", Tag{5, "a", false, nil}},
		{"<a<b>", Tag{5, "a", false, nil}},
		{"<a\"b>", Tag{5, "a", false, nil}},
		{"<a'b>", Tag{5, "a", false, nil}},
		{"<a\"b>\">", Tag{5, "a", false, nil}},
		// Attributes without a value, with one, with a quoted one.
		{"<a b>", Tag{5, "a", false, nil}},
		{"<a b c/d>", Tag{9, "a", false, nil}},
		{"<a title>", Tag{9, "a", false, nil}},
		{"<a title=x>", Tag{11, "a", false, nil}},
		{"<a b='>'>", Tag{9, "a", false, nil}},
		{"<a b=\">\">", Tag{9, "a", false, nil}},
		{"<a b='\"'>", Tag{9, "a", false, nil}},
		{"<a b=\"'\">", Tag{9, "a", false, nil}},
		{"<a b=/>", Tag{7, "a", false, nil}},
		{"<a b=c/>", Tag{8, "a", false, nil}},
		{"<a b=c=d>", Tag{9, "a", false, nil}},
		{"<a b=c\">", Tag{8, "a", false, nil}},
		{"<a b=c'>'>", Tag{8, "a", false, nil}},
		{"<a b=>", Tag{6, "a", false, nil}},
		{"<a b= >", Tag{7, "a", false, nil}},
		{"<a b=/'>'>", Tag{8, "a", false, nil}},
		// Prose.
		{"<a title='xy'>", Tag{14, "a", false, spans(10, 2)}},
		{"<a title=\"xy\">", Tag{14, "a", false, spans(10, 2)}},
		{"<a alt='xy'>", Tag{12, "a", false, spans(8, 2)}},
		{"<a ALT='xy'>", Tag{12, "a", false, spans(8, 2)}},
		{"<a TiTlE='xy'>", Tag{14, "a", false, spans(10, 2)}},
		{"</a alt='xy'>", Tag{13, "a", true, spans(9, 2)}},
		{"<a alt=''>", Tag{10, "a", false, nil}},
		{"<a title=\"\">", Tag{12, "a", false, nil}},
		{"<a alt='' alt='b'>", Tag{18, "a", false, spans(15, 1)}},
		{"<a alt=' '>", Tag{11, "a", false, spans(8, 1)}},
		{"<a alt='>'>", Tag{11, "a", false, spans(8, 1)}},
		{"<a alt='\"'>", Tag{11, "a", false, spans(8, 1)}},
		{"<a alt=\"<b alt='c'>\">", Tag{21, "a", false, spans(8, 11)}},
		{"<a alt='b' alt='cd'>", Tag{20, "a", false, spans(8, 1, 16, 2)}},
		{"<a title='b'alt='cd'>", Tag{21, "a", false, spans(10, 1, 17, 2)}},
		{"<a title='b'/alt='cd'/>", Tag{23, "a", false, spans(10, 1, 18, 2)}},
		{"<a/title='b'>", Tag{13, "a", false, spans(10, 1)}},
		{"<a\"alt='b'>", Tag{11, "a", false, nil}},
		{"<a ='b'alt='c'>", Tag{15, "a", false, nil}},
		{"<a b=''alt='c'>", Tag{15, "a", false, spans(12, 1)}},
		{"<a b ''alt='c'>", Tag{15, "a", false, nil}},
		{"<a b alt='c'>", Tag{13, "a", false, spans(10, 1)}},
		{"<a b=c alt='d'>", Tag{15, "a", false, spans(12, 1)}},
		{"<a b=c/alt='d'>", Tag{15, "a", false, nil}},
		{"<a b= alt='d'>", Tag{14, "a", false, nil}},
		{"<a alt alt='d'>", Tag{15, "a", false, spans(12, 1)}},
		{"<a alt=alt='d'>", Tag{15, "a", false, nil}},
		{"<a alt =\t'd'>", Tag{13, "a", false, spans(10, 1)}},
		{"<a alt\n\r=\f 'd'>", Tag{15, "a", false, spans(12, 1)}},
		{"<a alt/='d'>", Tag{12, "a", false, nil}},
		{"<a alt /='d'>", Tag{13, "a", false, nil}},
		{"<a alt=/'d'>", Tag{12, "a", false, nil}},
		// = where an attribute begins is of its name.
		{"<a =>", Tag{5, "a", false, nil}},
		{"<a ==>", Tag{6, "a", false, nil}},
		{"<a =alt='b'>", Tag{12, "a", false, nil}},
		{"<a ==alt='b'>", Tag{13, "a", false, nil}},
		{"<a ==alt alt='b'>", Tag{17, "a", false, spans(14, 1)}},
		{"<a =='>'>", Tag{9, "a", false, nil}},
		{"<a ='>'>", Tag{6, "a", false, nil}},
		{"<a='>'>", Tag{5, "a", false, nil}},
		{"<a=b>", Tag{5, "a", false, nil}},
		{"<title='b'>", Tag{11, "title", false, nil}},
		{"<alt ='b'>", Tag{10, "alt", false, nil}},
		// Names that are others.
		{"<a alts='b'>", Tag{12, "a", false, nil}},
		{"<a al='b'>", Tag{10, "a", false, nil}},
		{"<a xalt='b'>", Tag{12, "a", false, nil}},
		{"<a titles='b'>", Tag{14, "a", false, nil}},
		{"<a data-title='b'>", Tag{18, "a", false, nil}},
		{"<a x:alt='b'>", Tag{13, "a", false, nil}},
		{"<a t\u0130tle='b'>", Tag{14, "a", false, nil}},
		{"<a \"alt='b'>", Tag{12, "a", false, nil}},
		{"<a <alt='b'>", Tag{12, "a", false, nil}},
		{"<a alt\x00='b'>", Tag{12, "a", false, nil}},
		{"<a alt\v='b'>", Tag{12, "a", false, nil}},
		{"<a alt\xa0='b'>", Tag{12, "a", false, nil}},
		{"<a !LT='b'>", Tag{11, "a", false, nil}},
		{"<a \x81lt='b'>", Tag{11, "a", false, nil}},
		// Bytes that are no signs are bytes like others.
		{"<a alt='\xff\xfe\x00'>", Tag{13, "a", false, spans(8, 3)}},
		{"<a \xff=\xfe alt='\u00e4'>", Tag{16, "a", false, spans(12, 2)}},
	} {
		for _, ahead := range []string{"", "<", "<a '", "\xff", "x>\n"} {
			want := c.want
			want.End += len(ahead)
			want.Prose = slices.Clone(want.Prose)
			for i := range want.Prose {
				want.Prose[i].At += len(ahead)
			}
			for _, behind := range []string{"", ">", "'", "\"", " alt='q'>", "\x00"} {
				text := ahead + c.text + behind
				if got, ok := Read([]byte(text), len(ahead)); !ok || !same(got, want) {
					t.Errorf("P11.1: Read(%q, %d): %+v, %v, not %+v", text, len(ahead), got, ok, want)
				}
				holdRead(t, text, len(ahead))
			}
		}
	}
}

func TestReadFindsNone(t *testing.T) {
	for _, text := range []string{
		"", "<", "</", "<a", "</a", "<a ", "<a/", "<a b", "<a b ", "<a b=", "<a b= ", "<a b=c", "<a b='", "<a b='c", "<a b='c'", "<a b='c' ", "<a b=\"c'>",
		"<a b='>", "<a b='c\">", "<a alt=\"x\"", "<a alt=\"x", "<a =", "<a ==", "<a =='>",
		"a", ">", "/a>", "a>", "<>", "< >", "< a>", "</>", "</ a>", "<//a>", "</ >", "<<a>", "<1>", "<->", "<1a>", "</1>", "</-a>", "<!a>", "<?a>", "<!-- -->", "<_a>", "<@>", "<[>", "<`>", "<{>",
		"<\xc3\xa4>", "<\xe1>", "<\xc1>", "<\x00>", "<\xff>", "</\xff>", "\xff", "<\u0131>", "<\u212a>", "\x00<a>", " <a>", "&lt;a>",
	} {
		got, ok := Read([]byte(text), 0)
		if ok || !reflect.DeepEqual(got, Tag{}) {
			t.Errorf("P11.1, R3: Read(%q, 0): %+v, %v, not false", text, got, ok)
		}
		holdRead(t, text, 0)
	}
}

func TestReadAtAnyPlace(t *testing.T) {
	for _, text := range []string{"", "<", "<a>", "x<a alt='b'>y</c d=e>z<f", "<a<b<c>", "<a b='<c>'><d>"} {
		for at := -3; at <= len(text)+3; at++ {
			holdRead(t, text, at)
		}
		for _, at := range edges {
			holdRead(t, text, at)
		}
		for _, at := range []int{math.MinInt, -1, len(text), len(text) + 1, math.MaxInt} {
			if got, ok := Read([]byte(text), at); ok || !reflect.DeepEqual(got, Tag{}) {
				t.Errorf("P11.1: Read(%q, %d): %+v, %v, not false", text, at, got, ok)
			}
		}
	}
	for _, at := range edges {
		if got, ok := Read(nil, at); ok || !reflect.DeepEqual(got, Tag{}) {
			t.Errorf("P11.1: Read(nil, %d): %+v, %v, not false", at, got, ok)
		}
	}
}

// attributes are texts of attributes, each with the place and the length of what is prose in it.
var attributes = []struct {
	text    string
	at, len int
	bare    bool // its last byte is no quote: a blank must follow, or the end
}{
	{"b", 0, 0, true}, {"Title", 0, 0, true}, {"=", 0, 0, true}, {"'", 0, 0, true}, {"\xff\x00", 0, 0, true}, {"<i", 0, 0, true},
	{"b=c", 0, 0, true}, {"alt=c", 0, 0, true}, {"title = c'd\"", 0, 0, true}, {"b=a/b", 0, 0, true}, {"b = =", 0, 0, true},
	{`b="c"`, 0, 0, false}, {`b='<i alt="x">'`, 0, 0, false}, {`=alt="x"`, 0, 0, false}, {`b=""`, 0, 0, false}, {`data-alt="x"`, 0, 0, false},
	{`alt="c"`, 5, 1, false}, {`ALT='c d'`, 5, 3, false}, {"title\f=\r\n\"\t\"", 10, 1, false}, {`TitlE="it's > <"`, 7, 8, false}, {`aLt='"'`, 5, 1, false},
	{`alt=""`, 0, 0, false}, {`TITLE=''`, 0, 0, false}, {"title='\u00e4\xff'", 7, 3, false},
}

// tagText puts a tag together, and tells what must be read of it.
func tagText(r *rand.Rand, attrs []int) (string, Tag) {
	var tag Tag
	text := "<"
	if tag.Closes = r.Intn(3) == 0; tag.Closes {
		text += "/"
	}
	names := []string{"a", "B", "h1", "X-y-9", "script", "Title", "alt", "z--"}
	name := names[r.Intn(len(names))]
	tag.Name = strings.ToLower(name)
	text += name
	ahead := []string{" ", "/", "\t", "\n", "\r", "\f", " / ", "//", "\r\n"}
	for _, i := range attrs {
		a := attributes[i]
		text += ahead[r.Intn(len(ahead))]
		if a.len > 0 {
			tag.Prose = append(tag.Prose, api.Span{At: len(text) + a.at, Len: a.len})
		}
		text += a.text
		if a.bare {
			text += blanks[r.Intn(5):][:1]
			// Behind a name a blank does not tell whether = follows: a / does.
			text += "/"
		}
	}
	if r.Intn(2) == 0 {
		text += ahead[r.Intn(len(ahead))]
	}
	tag.End = len(text) + 1
	return text + ">", tag
}

func TestTagsPutTogether(t *testing.T) {
	r := rand.New(rand.NewSource(11))
	check := func(attrs ...int) {
		text, want := tagText(r, attrs)
		for _, behind := range []string{"", "'\">"} {
			if got, ok := Read([]byte(text+behind), 0); !ok || !same(got, want) {
				t.Fatalf("P11.1: Read(%q, 0): %+v, %v, not %+v", text+behind, got, ok, want)
			}
		}
		for n := range len(text) {
			// An earlier > that ends it is none of these: they are quoted.
			if got, ok := Read([]byte(text[:n]), 0); ok || !reflect.DeepEqual(got, Tag{}) {
				t.Fatalf("P11.1: Read(%q, 0): %+v, %v, not false", text[:n], got, ok)
			}
		}
	}
	check()
	for i := range attributes {
		check(i)
		for j := range attributes {
			check(i, j)
			for k := range attributes {
				check(i, j, k)
			}
		}
	}
}

// each puts together all texts of at most n of some pieces.
func each(n int, pieces []string, do func(text string)) {
	var grow func(text string, n int)
	grow = func(text string, n int) {
		do(text)
		if n == 0 {
			return
		}
		for _, p := range pieces {
			grow(text+p, n-1)
		}
	}
	grow("", n)
}

func TestReadOfAllSmallTags(t *testing.T) {
	each(6, strings.Split("b|=|\"|'| |/|>", "|"), func(text string) {
		holdRead(t, "<a"+text, 0)
		holdRead(t, "</a alt"+text, 0)
	})
	each(5, strings.Split("alt|TITLE|x|=|\"|'|\n|/|>|<", "|"), func(text string) {
		holdRead(t, "<b "+text, 0)
		holdRead(t, "<b "+text+"'\">", 0)
	})
	each(5, strings.Split("<|/|a|Z|9|-|>| ", "|"), func(text string) {
		for at := range len(text) + 1 {
			holdRead(t, text, at)
		}
	})
}

func TestEveryByteInEveryRole(t *testing.T) {
	shapes := []string{
		"<@", "<@>", "</@>", "<@a>", "</@a>", "@a>", "<a@>", "<a@b alt='c'>", "<a @>", "<a @alt='c'>", "<a alt@='c'>", "<a alt=@'c'>", "<a alt='@'>", "<a alt='c@>", "<a alt=c@alt='d'>",
		"<a b=@ alt='c'>", "<a alt@'c'>", "<a alt='c'@>", "<a al@='c'>", "<a @itle='c'>", "<a t@tle='c'>", "<a b@alt='c'>", "<a b='@alt='c'>'>", "<a b=@alt='c'>", "<@><b>", "<a@>b</a>",
		"<!-@->-->", "<!--@-->", "<!--a@->", "<!--a-@>b", "<!--a--@b>", "<![CDATA@a>]]>", "<![CDATA[@]]>", "<![CDATA[a@]>b", "<![CDATA[a]@>b", "<![CDATA[a]]@b>", "<!@>b", "<?@>b", "<!a@b", "<@b>c", "<@[CDATA[b>]]>",
		"<script@>b</script>c", "<script>b@/script>c", "<script>b<@script>c", "<script>b</@cript>c", "<script>b</scrip@>c", "<script>b</script@c>d", "<script>b</script@", "<script>b</script@>",
		"<title@>b</title>c", "<title>b</title@c", "<@tyle>b</style>", "<styl@>b</style>", "<textare@>b<i></textarea>", "<@itle>b<i></title>", "<scrip@>b</script>",
	}
	for _, shape := range shapes {
		for c := range 256 {
			text := strings.ReplaceAll(shape, "@", string([]byte{byte(c)}))
			for at := range len(text) {
				holdRead(t, text, at)
			}
			holdLex(t, text, drawn(text))
		}
	}
}

func TestNamesInEveryCase(t *testing.T) {
	for _, name := range []string{"alt", "title"} {
		for _, n := range cases(name) {
			text := "<" + n + " " + n + "='x'>"
			want := Tag{End: len(text), Name: name, Prose: spans(len(text)-3, 1)}
			if got, ok := Read([]byte(text), 0); !ok || !same(got, want) {
				t.Errorf("P11.1: Read(%q, 0): %+v, %v, not %+v", text, got, ok, want)
			}
		}
	}
	for _, name := range []string{"script", "style", "textarea", "title"} {
		sign := map[bool]string{true: "c", false: "."}[name[0] == 's']
		for _, n := range cases(name) {
			m := strings.Repeat("m", len(name)+1)
			holdLex(t, "<"+n+">a<b></"+name+">c", m+"m"+strings.Repeat(sign, 4)+m+"mm.")
			holdLex(t, "<"+name+">a<b></"+n+">c", m+"m"+strings.Repeat(sign, 4)+m+"mm.")
		}
	}
}

func TestLex(t *testing.T) {
	for _, c := range []struct{ text, want string }{
		{"", ""},
		{"a", "."},
		{"a b\n", "...."},
		{"a > b & c", "........."},
		{"a<b>c</b>d", ".mmm.mmmm."},
		{"<a alt='b'/><c>", "mmmmmmmm.mmmmmm"},
		{"<a alt=''><c>", "mmmmmmmmmmmmm"},
		{"</a alt='b' ALT=\"cd\">e", "mmmmmmmmm.mmmmmmm..mm."},
		// Remarks.
		{"a<!--b-->c", ".rrrrrrrr."},
		{"<!---->c", "rrrrrrr."},
		{"<!-->c", "rrrrrr"},
		{"<!--->c", "rrrrrrr"},
		{"<!-->c-->d", "rrrrrrrrr."},
		{"<!--->c-->d", "rrrrrrrrrr."},
		{"<!----->c", "rrrrrrrr."},
		{"<!--a--->c", "rrrrrrrrr."},
		{"<!--a-- >c-->d", "rrrrrrrrrrrrr."},
		{"<!--a<b>c", "rrrrrrrrr"},
		{"<!--", "rrrr"},
		{"<!--a--", "rrrrrrr"},
		{"<!--a<!--b-->c-->", "rrrrrrrrrrrrr...."},
		{"<!--a--><!--b-->", "rrrrrrrrrrrrrrrr"},
		{"<b><!--</b>-->c</b>", "mmmrrrrrrrrrrr.mmmm"},
		// CDATA, <! and <?.
		{"<![CDATA[a>b]]>c", "***************."},
		{"<![CDATA[]]>c", "************."},
		{"<![CDATA[]>c]]>d", "***************."},
		{"<![CDATA[a]]]>c", "**************."},
		{"<![CDATA[a]] >c", "***************"},
		{"<![CDATA[a<b>", "*************"},
		{"<![CDATA[", "*********"},
		{"<![CDATA]]>c", "mmmmmmmmmmm."},
		{"<![cdata[a>b]]>c", "mmmmmmmmmmm....."},
		{"<![CDATA", "mmmmmmmm"},
		{"<!DOCTYPE html>a", "mmmmmmmmmmmmmmm."},
		{"<!>a", "mmm."},
		{"<!->a-->b", "mmmm....."},
		{"<!-a>b", "mmmmm."},
		{"<!a", "mmm"},
		{"<!", "mm"},
		{"<! alt='>'>b", "mmmmmmmmm..."},
		{"<?xml a='b'?>c", "mmmmmmmmmmmmm."},
		{"<?>a", "mmm."},
		{"<?a", "mmm"},
		{"<?", "mm"},
		{"<?--a>-->b", "mmmmmm...."},
		{"<!<b>c", "mmmmm."},
		// Scripts and styles.
		{"<script>a<b></script>c", "mmmmmmmmccccmmmmmmmmm."},
		{"<style>a<b></style>c", "mmmmmmmccccmmmmmmmm."},
		{"<SCRIPT>a</sCrIpT >c", "mmmmmmmmcmmmmmmmmmm."},
		{"<script>a</script\f>c", "mmmmmmmmcmmmmmmmmmm."},
		{"<script>a</script/>c", "mmmmmmmmcmmmmmmmmmm."},
		{"<script>a</scripts>b</script>c", "mmmmmmmmcccccccccccc" + "mmmmmmmmm."},
		{"<script>a</script-x>b</script>c", "mmmmmmmmccccccccccccc" + "mmmmmmmmm."},
		{"<script>a</script", "mmmmmmmmcmmmmmmmm"},
		{"<script>a</script ", "mmmmmmmmcmmmmmmmmm"},
		{"<script>a</script b='", "mmmmmmmmcmmmmmmmmmmmm"},
		{"<script>a</script alt='b'>c", "mmmmmmmmcmmmmmmmmmmmmmm.mm."},
		{"<script>a</scrip", "mmmmmmmmcccccccc"},
		{"<script>a</script\v>", "mmmmmmmmccccccccccc"},
		{"<script>a<b>c", "mmmmmmmmccccc"},
		{"<script>a< /script>", "mmmmmmmmccccccccccc"},
		{"<script>a</ script>", "mmmmmmmmccccccccccc"},
		{"<script>a</style></script>", "mmmmmmmmcccccccccmmmmmmmmm"},
		{"<style>a</script></style>", "mmmmmmmccccccccccmmmmmmmm"},
		{"<script><!--</script>-->", "mmmmmmmmccccmmmmmmmmm..."},
		{"<script></script>a", "mmmmmmmmmmmmmmmmm."},
		{"<script>", "mmmmmmmm"},
		{"<script/>a</script>", "mmmmmmmmmcmmmmmmmmm"},
		{"<script alt='</script>'>a</script>", "mmmmmmmmmmmmm.........mmcmmmmmmmmm"},
		{"<script>'</script>'</script>b", "mmmmmmmmcmmmmmmmmm.mmmmmmmmm."},
		{"<scripts>a<b>", "mmmmmmmmm.mmm"},
		{"<script-x>a<b>", "mmmmmmmmmm.mmm"},
		{"<script_x>a<b></script>", "mmmmmmmmmmccccmmmmmmmmm"},
		{"<script><script></script>a</script>b", "mmmmmmmmccccccccmmmmmmmmm.mmmmmmmmm."},
		{"<\u017fcript>a<b>", "..........mmm"},
		{"<script>a</\u017fcript>b", "mmmmmmmmcccccccccccc"},
		{"<style>a</\u017ftyle>b", "mmmmmmmccccccccccc"},
		// Titles and textareas.
		{"<title>a<b></title>c", "mmmmmmm....mmmmmmmm."},
		{"<Title>a<b></TITLE\n>c", "mmmmmmm....mmmmmmmmm."},
		{"<textarea>a<b></textarea>c", "mmmmmmmmmm....mmmmmmmmmmm."},
		{"<textarea>a<!--b--></textarea><!--c-->", "mmmmmmmmmm.........mmmmmmmmmmmrrrrrrrr"},
		{"<title>a<script>b</title>c", "mmmmmmm..........mmmmmmmm."},
		{"<title>a</titles><b>", "mmmmmmm............."},
		{"<title>a<b", "mmmmmmm..."},
		{"<title>a</title", "mmmmmmm.mmmmmmm"},
		{"<title>a</textarea></title>", "mmmmmmm............mmmmmmmm"},
		{"<title title='x'>a<b></title>", "mmmmmmmmmmmmmm.mm....mmmmmmmm"},
		// Closing tags by themselves.
		{"</script>a<b>", "mmmmmmmmm.mmm"},
		{"</style>a<b>", "mmmmmmmm.mmm"},
		{"</title>a<b>", "mmmmmmmm.mmm"},
		{"</textarea>a<b>", "mmmmmmmmmmm.mmm"},
		{"</script>a</script>b<i>", "mmmmmmmmm.mmmmmmmmm.mmm"},
		// < that begins no tag.
		{"a<", ".."},
		{"a</", "..."},
		{"a<b", ".mm"},
		{"a</b", ".mmm"},
		{"a<b c <d> e='", ".mmmmmmmm...."},
		{"a<b c='<d>", ".mmmmmmmmm"},
		{"a<b alt='c'", ".mmmmmmmmmm"},
		{"a<b alt='c", ".mmmmmmmmm"},
		{"a<b\nc\n<!--d--", ".mmmmmmmmmmmm"},
		{"a<b\nc\n<!--d-->e", ".mmmmmmmmmmmmm."},
		{"a < b <c>", "......mmm"},
		{"1<2<b>", "...mmm"},
		{"<>a</>b<b>", ".......mmm"},
		{"<<b>>", ".mmm."},
		{"<//b><b>", ".....mmm"},
		{"</ b><b>", ".....mmm"},
		{"</<b>", "..mmm"},
		{"</!--a-->", "........."},
		{"</1><1><->", ".........."},
		{"<\u00e4><b>", "....mmm"},
		{"<\xff><\x00></\xff><b>", "..........mmm"},
		{"\xff\xfe<b>\xc3", "..mmm."},
	} {
		holdLex(t, c.text, c.want)
		if got := drawn(c.text); got != c.want {
			t.Errorf("the tests' own picture of %q: %s, not %s", c.text, got, c.want)
		}
	}
}

// scenes are texts with their pictures; whatever comes behind one of them, it stays what it is.
var scenes = [][2]string{
	{"a ", ".."}, {"x > y & z\n", ".........."}, {"\u00e4\xff\x00 ", "....."}, {"1 < 2 ", "......"}, {"</ <> ", "......"}, {"< ", ".."}, {"</1", "..."}, {"<9>", "..."}, {"-->", "..."}, {"]]>", "..."},
	{"<!--a-->", "rrrrrrrr"}, {"<!---->", "rrrrrrr"}, {"<!--><b>--->", "rrrrrrrrrrrr"}, {"<!--<script>-->", "rrrrrrrrrrrrrrr"},
	{"<![CDATA[a]]>", "*************"}, {"<![CDATA[<b>]>]]]>", "******************"}, {"<![CDATA[<!--]]>", "****************"},
	{"<!a>", "mmmm"}, {"<!>", "mmm"}, {"<!-a>", "mmmmm"}, {"<![CDATA>", "mmmmmmmmm"}, {"<?a b='?>", "mmmmmmmmm"}, {"<?>", "mmm"},
	{"<b>", "mmm"}, {"</b>", "mmmm"}, {"<b/>", "mmmm"}, {"<i alt='>'>", "mmmmmmmm.mm"}, {"</I TITLE=\"it's\">", "mmmmmmmmmmm....mm"}, {"<a alt= b href='<!--'\n>", "mmmmmmmmmmmmmmmmmmmmmmm"},
	{"<script>a<b></script>", "mmmmmmmmccccmmmmmmmmm"}, {"<STYLE a=b>--></style\t>", "mmmmmmmmmmmcccmmmmmmmmm"}, {"<script></scripts></script/>", "mmmmmmmmccccccccccmmmmmmmmmm"},
	{"<title>a<b></title>", "mmmmmmm....mmmmmmmm"}, {"<TextArea alt='x'><!--</textAREA>", "mmmmmmmmmmmmmmm.mm....mmmmmmmmmmm"},
	{"</script>", "mmmmmmmmm"}, {"</style>", "mmmmmmmm"}, {"</title>", "mmmmmmmm"}, {"</textarea x>", "mmmmmmmmmmmmm"},
}

// ends are texts that don't end, with the sign for all that they swallow.
var ends = [][2]string{
	{"", ""}, {"<", "."}, {"</", ".."}, {"<!--a--", "rrrrrrr"}, {"<![CDATA[a]]", "************"}, {"<!a", "mmm"}, {"<?", "mm"}, {"<b", "mm"}, {"</b c", "mmmmm"}, {"<b alt='c", "mmmmmmmmm"}, {"<b =", "mmmm"},
	{"<script>a</scrip", "mmmmmmmmcccccccc"}, {"<style>a</style", "mmmmmmmcmmmmmmm"}, {"<title>a<b></title ", "mmmmmmm....mmmmmmmm"}, {"<textarea><b>", "mmmmmmmmmm..."},
}

func TestScenes(t *testing.T) {
	for _, a := range scenes {
		for _, b := range scenes {
			holdLex(t, a[0]+b[0], a[1]+b[1])
			for _, e := range ends {
				holdLex(t, a[0]+b[0]+e[0], a[1]+b[1]+e[1])
			}
			for _, c := range scenes {
				holdLex(t, a[0]+b[0]+c[0], a[1]+b[1]+c[1])
			}
		}
	}
}

func TestLongRowsOfScenes(t *testing.T) {
	r := rand.New(rand.NewSource(12))
	for _, n := range []int{10, 50, 200, 1000, 4000} {
		for range 20 {
			var text, want strings.Builder
			for range n {
				s := scenes[r.Intn(len(scenes))]
				text.WriteString(s[0])
				want.WriteString(s[1])
			}
			e := ends[r.Intn(len(ends))]
			if text.Len()+len(e[0]) <= top {
				holdLex(t, text.String()+e[0], want.String()+e[1])
			}
		}
	}
}

func TestLexOfAllSmallTexts(t *testing.T) {
	for _, pieces := range []string{
		"<|/|!|-|--|>|a|?| ",
		"<|</|script|STYLE|s|>|/| |a",
		"<|/title|<title|textarea|>|<!--|-->| ",
		"<![CDATA[|<!|]|]]>|>|[|<b>|a",
		"<a |alt|=|'|\"|>|x|/| ",
	} {
		each(5, strings.Split(pieces, "|"), func(text string) {
			holdLex(t, text, drawn(text))
		})
	}
}

func TestAnyBytes(t *testing.T) {
	r := rand.New(rand.NewSource(13))
	pieces := strings.Split("<|<|</|>|>|/|=|'|\"| |\n|-|--|!|?|<!--|-->|<![CDATA[|]]>|<!|<?|a|B|9|alt|TITLE=|alt='|script|<script>|</script|Style|<title>|</title>|textarea|\xff|\x00|\u00e4|\u017f", "|")
	for range 60000 {
		var text strings.Builder
		for range r.Intn(24) {
			if r.Intn(12) == 0 {
				text.WriteByte(byte(r.Intn(256)))
				continue
			}
			text.WriteString(pieces[r.Intn(len(pieces))])
		}
		holdLex(t, text.String(), drawn(text.String()))
		holdRead(t, text.String(), r.Intn(text.Len()+3)-1)
	}
}

// whole fills so many bytes with a text behind a beginning.
func whole(n int, begin, text string) string {
	return (begin + strings.Repeat(text, n/len(text)+1))[:n]
}

func TestWholeFiles(t *testing.T) {
	for _, n := range []int{top - 1, top} {
		for _, c := range [][2]string{
			{"", "a"}, {"", "<"}, {"", "</"}, {"", "<a"}, {"", "<a>"}, {"", "</a>"}, {"", "< "}, {"", "<!"}, {"", "<!->"}, {"", "<!-"}, {"<!--", "->"}, {"<!--", "<!--"}, {"<!--", "-"}, {"<![CDATA[", "]"}, {"<![CDATA[", "]>"}, {"", "<?"},
			{"<script>", "</script-"}, {"<script>", "</"}, {"<script>", "</scrip"}, {"", "<script></script>"}, {"<title>", "<"}, {"", "<title>"}, {"", "</title>"}, {"<textarea>", "</textarea"},
			{"<a ", "="}, {"<a ", "alt="}, {"<a ", "alt='"}, {"<a ", "alt='b' "}, {"<a ", "/"}, {"<a ", " "}, {"<a ", "\""}, {"<a b=", "\""}, {"<a b='", "\""}, {"", "<a alt='b'>"}, {"<", "a"}, {"<a alt='", "b"}, {"<a b=", "c"}, {"", "\x00"}, {"", "\xff"},
		} {
			text := whole(n, c[0], c[1])
			holdLex(t, text, drawn(text))
			text = text[:n-2] + "'>"
			holdLex(t, text, drawn(text))
		}
	}
}

func TestLexRefuses(t *testing.T) {
	for _, n := range []int{top + 1, top + 2, 2 * top, 1 << 20} {
		for _, text := range []string{"a", "<", "<b>", "<!--"} {
			if s, e := Lex([]byte(whole(n, "", text))); s != nil || e != api.ErrRange {
				t.Errorf("P11.2, R3: %d bytes: %v, %d, not nil, ErrRange", n, s, e)
			}
		}
	}
	if s, e := Lex([]byte(whole(top, "", "a"))); s.Len() != top || e != api.OK {
		t.Errorf("P11.2: 65536 bytes: %d, %d", s.Len(), e)
	}
}

func TestLexOfNothing(t *testing.T) {
	for _, b := range [][]byte{nil, {}} {
		if s, e := Lex(b); s == nil || s.Len() != 0 || len(s.Segs()) != 0 || e != api.OK {
			t.Errorf("P11.2: Lex of no bytes: %v, %d", s, e)
		}
	}
}

func TestReadOfMoreThanAFile(t *testing.T) {
	for _, n := range []int{top, top + 1, 3 * top} {
		text := "<a alt='" + strings.Repeat("b", n) + "'>"
		want := Tag{End: n + 10, Name: "a", Prose: spans(8, n)}
		if got, ok := Read([]byte(text), 0); !ok || !same(got, want) {
			t.Errorf("P11.1: Read of %d bytes: %v, %v", len(text), got.End, ok)
		}
		text = "</" + strings.Repeat("B", n) + strings.Repeat(" ", n) + ">"
		if got, ok := Read([]byte(text), 0); !ok || got.End != 2*n+3 || got.Name != strings.Repeat("b", n) || !got.Closes {
			t.Errorf("P11.1: Read of %d bytes: %v, %v", len(text), got.End, ok)
		}
		text = strings.Repeat("<a>", n)
		if got, ok := Read([]byte(text), 3*n-3); !ok || !same(got, Tag{End: 3 * n, Name: "a"}) {
			t.Errorf("P11.1: Read(.., %d): %v, %v", 3*n-3, got, ok)
		}
	}
}

// laid is what Lay must do, each byte asked by itself.
func laid(l []api.Label, at int, tag Tag) {
	for i := range l {
		if i >= at && i < tag.End {
			l[i] = api.Markup
		}
		for _, s := range tag.Prose {
			// The difference of two ints fits what has no sign, as long as it isn't below 0.
			if s.Len > 0 && i >= s.At && uint64(i)-uint64(s.At) < uint64(s.Len) {
				l[i] = api.Prose
			}
		}
	}
}

func holdLay(t *testing.T, n, at int, tag Tag) {
	t.Helper()
	s, _ := label.New(n)
	s.Set(api.Code, 0, n)
	want := slices.Repeat([]api.Label{api.Code}, n)
	before := slices.Clone(tag.Prose)
	Lay(s, at, tag)
	laid(want, at, tag)
	for i, l := range want {
		if s.At(i) != l {
			t.Fatalf("P11.1: Lay on %d bytes at %d: %+v: byte %d is %d, not %d", n, at, tag, i, s.At(i), l)
		}
	}
	if s.Len() != n || !slices.Equal(before, tag.Prose) {
		t.Fatalf("R6: Lay on %d bytes at %d: %+v", n, at, tag)
	}
}

func TestLay(t *testing.T) {
	for _, c := range []struct {
		at   int
		tag  Tag
		want string
	}{
		{0, Tag{End: 3}, "mmmccccccc"},
		{2, Tag{End: 5}, "ccmmmccccc"},
		{2, Tag{End: 8, Prose: spans(4, 2)}, "ccmm..mmcc"},
		{2, Tag{End: 9, Prose: spans(3, 1, 5, 2)}, "ccm.m..mmc"},
		{0, Tag{End: 10, Prose: spans(0, 10)}, ".........."},
		{7, Tag{End: 12, Prose: spans(9, 2)}, "cccccccmm."},
		{-3, Tag{End: 2}, "mmcccccccc"},
		{5, Tag{End: 5}, "cccccccccc"},
		{5, Tag{End: 2}, "cccccccccc"},
		{5, Tag{}, "cccccccccc"},
		{10, Tag{End: 12}, "cccccccccc"},
		{2, Tag{End: 4, Prose: spans(6, 2)}, "ccmmcc..cc"},
		{4, Tag{End: 6, Prose: spans(0, 1)}, ".cccmmcccc"},
		{4, Tag{End: 2, Prose: spans(8, 1)}, "cccccccc.c"},
		{2, Tag{End: 5, Prose: spans(3, 0)}, "ccmmmccccc"},
		{2, Tag{End: 5, Prose: spans(4, -2)}, "ccmmmccccc"},
		{2, Tag{End: 5, Prose: spans(-2, 3)}, ".cmmmccccc"},
		{2, Tag{End: 5, Prose: spans(4, 1, 2, 1)}, "cc.m.ccccc"},
		{2, Tag{End: 9, Prose: spans(3, 4, 4, 1)}, "ccm....mmc"},
		{2, Tag{End: 5, Prose: spans(4, math.MaxInt)}, "ccmm......"},
		{2, Tag{End: 5, Prose: spans(math.MinInt, -1)}, "ccmmmccccc"},
		{2, Tag{End: 5, Prose: spans(math.MinInt, math.MinInt)}, "ccmmmccccc"},
		{2, Tag{End: 5, Prose: spans(-1, math.MaxInt)}, ".........."},
		{2, Tag{End: 5, Prose: spans(math.MaxInt, math.MaxInt)}, "ccmmmccccc"},
		{math.MinInt, Tag{End: math.MaxInt}, "mmmmmmmmmm"},
		{math.MaxInt, Tag{End: math.MinInt}, "cccccccccc"},
		{3, Tag{End: math.MaxInt, Name: "script", Closes: true}, "cccmmmmmmm"},
	} {
		s, _ := label.New(10)
		s.Set(api.Code, 0, 10)
		Lay(s, c.at, c.tag)
		if got := picture(s); got != c.want {
			t.Errorf("P11.1: Lay at %d: %+v: %s, not %s", c.at, c.tag, got, c.want)
		}
		holdLay(t, 10, c.at, c.tag)
	}
}

func TestLayOfTagsThatReadDidNotMake(t *testing.T) {
	some := append([]int{4, 5, 6}, edges...)
	for _, n := range []int{0, 1, 5, top} {
		for _, a := range some {
			for _, b := range some {
				holdLay(t, n, a, Tag{End: b, Name: "\xff"})
				holdLay(t, n, 1, Tag{End: 4, Prose: []api.Span{{At: a, Len: b}}})
			}
		}
	}
	for _, a := range some {
		for _, b := range some {
			for _, c := range some {
				holdLay(t, 6, 1, Tag{End: c, Prose: []api.Span{{At: a, Len: b}, {At: b, Len: c}, {}}})
			}
		}
	}
}

func TestLayOfTagsThatReadMade(t *testing.T) {
	r := rand.New(rand.NewSource(14))
	for range 2000 {
		attrs := make([]int, r.Intn(5))
		for i := range attrs {
			attrs[i] = r.Intn(len(attributes))
		}
		text, _ := tagText(r, attrs)
		ahead := strings.Repeat("<", r.Intn(5))
		tag, ok := Read([]byte(ahead+text), len(ahead))
		if !ok {
			t.Fatalf("P11.1: Read(%q, %d): none", ahead+text, len(ahead))
		}
		holdLay(t, len(ahead)+len(text)+r.Intn(5), len(ahead), tag)
		holdLay(t, r.Intn(len(ahead)+len(text)), len(ahead), tag)
		s := lexed(t, "\n"+text)
		want := "." + string(tagDrawn(len(ahead), tag))
		if got := picture(s); got != want {
			t.Fatalf("P11.2: Lex(%q): %s, not %s", "\n"+text, got, want)
		}
	}
}

func TestLayOnNoSheet(t *testing.T) {
	for _, a := range edges {
		Lay(nil, a, Tag{End: 5, Prose: spans(0, 1)})
		Lay(nil, 0, Tag{End: a, Prose: []api.Span{{At: a, Len: a}}})
		s := new(label.Sheet)
		Lay(s, a, Tag{End: 5, Prose: []api.Span{{At: a, Len: 5}}})
		if s.Len() != 0 || s.At(a) != 0 {
			t.Errorf("P1: Lay on a sheet that New did not make: %d", s.Len())
		}
	}
}

func TestSpareRoomIsNotRead(t *testing.T) {
	full := "<a alt='b'><script>c</script><!--d--><![CDATA[e]]><?f>g</script>"
	for n := range len(full) + 1 {
		b := []byte(full)
		for at := range n {
			got, ok := Read(b[:n], at)
			want, yes := machineRead(full[:n], at)
			if ok != yes || !same(got, want) {
				t.Fatalf("R6: Read(%q, %d), room behind it: %+v, %v", full[:n], at, got, ok)
			}
		}
		s, e := Lex(b[:n])
		if e != api.OK || picture(s) != drawn(full[:n]) {
			t.Fatalf("R6: Lex(%q), room behind it: %s, %d", full[:n], picture(s), e)
		}
		if string(b) != full {
			t.Fatalf("R6: the bytes or the room behind %q are changed: %q", full[:n], b)
		}
	}
}

func TestAnswersAreNewMemory(t *testing.T) {
	b := []byte("<Ab alt='c' title='d' alt='e'>f")
	one, _ := Read(b, 0)
	two, _ := Read(b, 0)
	want, _ := machineRead(string(b), 0)
	for i := range one.Prose[:cap(one.Prose)] {
		one.Prose[:cap(one.Prose)][i] = api.Span{At: -1, Len: -1}
	}
	if !same(two, want) {
		t.Errorf("R6: an answer is changed with another one: %+v", two)
	}
	s, _ := Lex(b)
	o, _ := Lex(b)
	p := picture(o)
	s.Set(api.Raw, 0, s.Len())
	clear(b)
	if !same(two, want) {
		t.Errorf("R6: an answer is changed with the bytes: %+v", two)
	}
	if picture(o) != p {
		t.Errorf("R6: a sheet is changed with another one, or with the bytes: %s", picture(o))
	}
	Lay(o, 0, two)
	if !same(two, want) {
		t.Errorf("R6: a tag is changed as it is laid: %+v", two)
	}
	two.Prose[0] = api.Span{At: 0, Len: 31}
	if picture(o) != p {
		t.Errorf("R6: a sheet is changed with what was laid on it: %s", picture(o))
	}
}

func TestAnswersHangOnArgumentsAlone(t *testing.T) {
	texts := []string{"<a alt='b'>", "<script>c", "", "<!--d", "e<f", "</title>"}
	var first []string
	for round := range 3 {
		for i, text := range texts {
			tag, ok := Read([]byte(text), 0)
			told := fmt.Sprint(tag, ok, picture(lexed(t, text)))
			if round == 0 {
				first = append(first, told)
			}
			if told != first[i] {
				t.Errorf("R8: %q: %s, not %s", text, told, first[i])
			}
		}
		slices.Reverse(texts)
		slices.Reverse(first)
	}
}

func FuzzLex(f *testing.F) {
	for _, s := range scenes {
		f.Add(s[0])
	}
	for _, e := range ends {
		f.Add(e[0])
	}
	f.Fuzz(func(t *testing.T, text string) {
		if len(text) > top {
			return
		}
		holdLex(t, text, drawn(text))
		for at := -1; at <= min(len(text), 300); at++ {
			holdRead(t, text, at)
		}
	})
}
