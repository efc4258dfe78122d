package decode

import (
	"bytes"
	"math"
	"math/big"
	"math/rand"
	"regexp"
	"slices"
	"strconv"
	"strings"
	"testing"
	"unicode/utf8"

	"redpen/api"
)

// none is the number of a format, or of a label, that isn't one.
const none = 9

// isSign says by the chapter's numbers whether an entity or an escape may stand for a number.
func isSign(n int) bool {
	return n >= 1 && n <= 0x10ffff && (n < 0xd800 || n > 0xdfff)
}

// read is what a call answers of bytes: a sign, how many bytes, and whether there is one.
type read struct {
	r  rune
	n  int
	ok bool
}

// sure is read, if the number is that of a sign; else nothing.
func sure(number, n int) read {
	if !isSign(number) {
		return read{}
	}
	return read{rune(number), n, true}
}

// value reckons digits by hand; what is beyond every sign stays so.
func value(digits string, base int) int {
	n := 0
	for _, c := range strings.ToLower(digits) {
		n = min(n*base+strings.IndexRune("0123456789abcdef", c), 1<<40)
	}
	return n
}

var (
	entityForm = regexp.MustCompile(`\A&(?:(amp|apos|gt|lt|nbsp|quot)|#([0-9]+)|#[xX]([0-9a-fA-F]+));`)
	asciiForm  = regexp.MustCompile(`\A\\([\x00-\x7f])`)
	hexForm    = regexp.MustCompile(`\A\\(?:x([0-9a-fA-F]{2})|u([0-9a-fA-F]{4})|U([0-9a-fA-F]{8}))`)
	shellForm  = regexp.MustCompile("\\A\\\\([\"\\\\$`])")
	signForm   = regexp.MustCompile("\\A\\\\([!-~])")
	alnum      = regexp.MustCompile("[0-9A-Za-z]")
)

// meanings are what entities' names stand for.
var meanings = map[string]int{"amp": 0x26, "apos": 0x27, "gt": 0x3e, "lt": 0x3c, "nbsp": 0xa0, "quot": 0x22}

// entityOf is Entity by patterns.
func entityOf(text string) read {
	m := entityForm.FindStringSubmatch(text)
	switch {
	case m == nil || len(m[0]) > 13:
		return read{}
	case m[1] != "":
		return sure(meanings[m[1]], len(m[0]))
	case m[2] != "":
		return sure(value(m[2], 10), len(m[0]))
	}
	return sure(value(m[3], 16), len(m[0]))
}

// escapeOf is Escape by patterns.
func escapeOf(f api.Format, text string) read {
	pattern := asciiForm
	if f == 7 {
		pattern = shellForm
	}
	m := pattern.FindStringSubmatch(text)
	if m == nil {
		return read{}
	}
	c := rune(m[1][0])
	if f == 7 {
		return read{c, 2, true}
	}
	switch c {
	case 'n':
		return read{10, 2, true}
	case 'r':
		return read{13, 2, true}
	case 't':
		return read{9, 2, true}
	case 'x', 'u', 'U':
		if m = hexForm.FindStringSubmatch(text); m == nil {
			return read{}
		}
		return sure(value(m[1]+m[2]+m[3], 16), len(m[0]))
	}
	return read{c, 2, true}
}

// signOf is the sign that comes next in a part, by patterns.
func signOf(f api.Format, l api.Label, text string) read {
	switch {
	case l == 1 && (f == 1 || f == 2):
		if e := entityOf(text); e.ok {
			return e
		}
		if m := signForm.FindStringSubmatch(text); f == 2 && m != nil && !alnum.MatchString(m[1]) {
			return read{rune(m[1][0]), 2, true}
		}
	case l == 5 && f == 8 && strings.HasPrefix(text, "''"):
		return read{'\'', 2, true}
	case l == 5 && f >= 4 && f <= 7:
		if e := escapeOf(f, text); e.ok {
			return e
		}
	}
	r, n := utf8.DecodeRuneInString(text)
	if r == utf8.RuneError && n == 1 {
		r = -1
	}
	return read{r, n, true}
}

// signsOf is Units by patterns.
func signsOf(f api.Format, text string, s api.Seg) []api.Unit {
	var l []api.Unit
	for at, to := s.Span.At, s.Span.At+s.Span.Len; at < to; {
		e := signOf(f, s.Label, text[at:to])
		l = append(l, unit(e.r, at, e.n))
		at += e.n
	}
	return l
}

// textOf is Text by hand.
func textOf(l []api.Unit) string {
	var t strings.Builder
	for _, u := range l {
		if u.Rune == 0 || isSign(int(u.Rune)) {
			t.WriteRune(u.Rune)
		}
	}
	return t.String()
}

func unit(r rune, at, n int) api.Unit {
	return api.Unit{Rune: r, Span: api.Span{At: at, Len: n}}
}

func seg(l api.Label, at, n int) api.Seg {
	return api.Seg{Label: l, Span: api.Span{At: at, Len: n}}
}

func holdEntity(t *testing.T, text string, want read) {
	t.Helper()
	b := []byte(text)
	r, n, ok := Entity(b)
	if got := (read{r, n, ok}); got != want {
		t.Fatalf("P15.1: Entity(%.100q): %v, not %v", text, got, want)
	}
	if string(b) != text {
		t.Fatalf("R6: Entity(%.100q) changed the bytes", text)
	}
}

func holdEscape(t *testing.T, f api.Format, text string, want read) {
	t.Helper()
	b := []byte(text)
	r, n, ok := Escape(f, b)
	if got := (read{r, n, ok}); got != want {
		t.Fatalf("P15.1: Escape(%d, %.100q): %v, not %v", f, text, got, want)
	}
	if string(b) != text {
		t.Fatalf("R6: Escape(%d, %.100q) changed the bytes", f, text)
	}
}

// holdUnits holds Units, and what Text and Literal say of its answer, against the second reader.
func holdUnits(t *testing.T, f api.Format, text string, s api.Seg) {
	t.Helper()
	b := []byte(text)
	l, e := Units(f, b, s)
	want := signsOf(f, text, s)
	if e != api.OK || !slices.Equal(l, want) {
		t.Fatalf("P15.2: Units(%d, %.100q, %v): %v, %d, not %v", f, text, s, l, e, want)
	}
	at := s.Span.At
	for _, u := range l {
		if u.Span.At != at || u.Span.Len < 1 {
			t.Fatalf("P15.2: Units(%d, %.100q, %v): %v isn't at %d", f, text, s, u, at)
		}
		at += u.Span.Len
	}
	if at != s.Span.At+s.Span.Len {
		t.Fatalf("P15.2: Units(%d, %.100q, %v) end at %d", f, text, s, at)
	}
	told := textOf(l)
	if got := Text(l); got != told {
		t.Fatalf("P15.3: Text(%v): %q, not %q", l, got, told)
	}
	literal := text[s.Span.At:at] == told
	if got := Literal(b, l); got != literal {
		t.Fatalf("P15.3: Literal(%.100q, %v): %t", text, l, got)
	}
	if string(b) != text {
		t.Fatalf("R6: the bytes %.100q are changed", text)
	}
}

func holdWhole(t *testing.T, f api.Format, l api.Label, text string) {
	t.Helper()
	holdUnits(t, f, text, seg(l, 0, len(text)))
}

// eachText hands over all texts of up to n of the pieces.
func eachText(pieces []string, n int, do func(text string)) {
	var longer func(text string, n int)
	longer = func(text string, n int) {
		do(text)
		if n == 0 {
			return
		}
		for _, p := range pieces {
			longer(text+p, n-1)
		}
	}
	longer("", n)
}

func TestExample(t *testing.T) {
	b := []byte("a&amp;b")
	l, e := Units(api.Html, b, seg(api.Prose, 0, len(b)))
	want := []api.Unit{unit('a', 0, 1), unit('&', 1, 5), unit('b', 6, 1)}
	if e != api.OK || !slices.Equal(l, want) {
		t.Errorf("P15.2: %v, %d, not %v", l, e, want)
	}
}

func TestEntitiesByName(t *testing.T) {
	for name, r := range meanings {
		whole := "&" + name + ";"
		want := read{rune(r), len(whole), true}
		for _, behind := range []string{"", ";", "a", "&", "\xff", "\n", whole, strings.Repeat("a", 99)} {
			holdEntity(t, whole+behind, want)
		}
		for _, wrong := range []string{
			name, name + ";", "&" + name, "&" + name + " ;", "& " + name + ";", "&" + name + "&;", "&&" + name + ";",
			"&" + strings.ToUpper(name) + ";", "&" + strings.ToUpper(name[:1]) + name[1:] + ";", "&" + name[:len(name)-1] + strings.ToUpper(name[len(name)-1:]) + ";",
			"&" + name[1:] + ";", "&" + name[:len(name)-1] + ";", "&" + name + "a;", "&a" + name + ";", "&" + name + name + ";",
			"&#" + name + ";", "&" + name + "#;", "&x" + name + ";", "&" + name + ":", "&" + name + "\n;", "&" + name + "\x00;", "\\&" + name + ";",
			" " + whole, "a" + whole, ";" + whole, "\xff" + whole,
		} {
			holdEntity(t, wrong, read{})
		}
		for n := range len(whole) {
			holdEntity(t, whole[:n], read{})
			// The rest is in the room behind, and none of these bytes.
			if r, k, ok := Entity([]byte(whole)[:n]); r != 0 || k != 0 || ok {
				t.Errorf("P15.1: Entity of the first %d bytes of %q: %x, %d, %t", n, whole, r, k, ok)
			}
		}
	}
}

func TestEntitiesOfNoName(t *testing.T) {
	for _, wrong := range []string{
		"", "&", "&;", ";", ";&", "&&;", "& ;", "a", "#", "\xff", "\x00", "&\xff;", "&\x00;",
		"&copy;", "&euro;", "&hellip;", "&auml;", "&apo;", "&quo;", "&nbs;", "&am;", "&g;", "&l;", "&t;",
		"&ampamp;", "&lt gt;", "&gtlt;", "&lt&gt;", "&lt,gt;", "&a;mp;", "&nbsp", "&aaaaaaaaaaa;", "&aaaaaaaaaaaaaaa;",
	} {
		holdEntity(t, wrong, read{})
	}
	if r, n, ok := Entity(nil); r != 0 || n != 0 || ok {
		t.Errorf("P15.1: Entity(nil): %x, %d, %t", r, n, ok)
	}
}

func TestEntitiesByNumber(t *testing.T) {
	for _, c := range []struct {
		text string
		r    rune
	}{
		{"&#65;", 'A'}, {"&#x41;", 'A'}, {"&#X41;", 'A'},
		{"&#1;", 1}, {"&#x1;", 1}, {"&#X1;", 1},
		{"&#9;", 9}, {"&#9999;", 9999}, {"&#x9999;", 0x9999},
		{"&#228;", 0xe4}, {"&#xe4;", 0xe4}, {"&#xE4;", 0xe4}, {"&#XeF;", 0xef},
		{"&#xabcdef;", 0}, {"&#xabcde;", 0xabcde}, {"&#xFABCD;", 0xfabcd}, {"&#xaBcDe;", 0xabcde},
		{"&#127;", 127}, {"&#128;", 128}, {"&#255;", 255}, {"&#256;", 256},
		{"&#xd7ff;", 0xd7ff}, {"&#xd800;", 0}, {"&#xdbff;", 0}, {"&#xdc00;", 0}, {"&#xdfff;", 0}, {"&#xe000;", 0xe000},
		{"&#55295;", 0xd7ff}, {"&#55296;", 0}, {"&#57343;", 0}, {"&#57344;", 0xe000},
		{"&#xfffd;", 0xfffd}, {"&#xfffe;", 0xfffe}, {"&#xffff;", 0xffff}, {"&#x10000;", 0x10000},
		{"&#x10ffff;", 0x10ffff}, {"&#x110000;", 0}, {"&#1114111;", 0x10ffff}, {"&#1114112;", 0},
		{"&#0;", 0}, {"&#00;", 0}, {"&#x0;", 0}, {"&#X00;", 0}, {"&#0000000000;", 0}, {"&#x000000000;", 0},
		{"&#65;;", 'A'}, {"&#65;a", 'A'}, {"&#65;&#66;", 'A'}, {"&#x41;\xff", 'A'},
		// Numbers that would wrap round to one of a sign.
		{"&#x80000041;", 0}, {"&#x100000041;", 0}, {"&#2147483713;", 0}, {"&#4294967361;", 0}, {"&#9999999999;", 0}, {"&#xfffffffff;", 0}, {"&#xffffffff;", 0}, {"&#4294967295;", 0},
	} {
		want := read{}
		if c.r != 0 {
			want = read{c.r, strings.Index(c.text, ";") + 1, true}
		}
		holdEntity(t, c.text, want)
	}
}

func TestEntitiesOfNoNumber(t *testing.T) {
	for _, wrong := range []string{
		"&#;", "&#x;", "&#X;", "&#", "&#x", "&#6", "&#65", "&#x41", "&65;", "&x41;", "#65;", "&#xx41;", "&#xX41;", "&#Xx41;", "&##65;", "&#x#41;",
		"&#4a;", "&#a;", "&#f;", "&#x4g;", "&#xg;", "&#x4G;", "&#+65;", "&#-65;", "&#x+41;", "&#x-41;", "&# 65;", "&#65 ;", "&#x 41;", "&#x41 ;", "& #65;", "&#6 5;",
		"&#6_5;", "&#x4_1;", "&#_65;", "&#0x41;", "&#00x41;", "&#0b1;", "&#0o7;", "&#65.;", "&#65.0;", "&#6e1;", "&#1e3;", "&#65,", "&#65:", "&#65\n;", "&#\uff16\uff15;", "&#x\uff14\uff11;", "&#\u0666;",
		"&#65&;", "&#amp;", "&#x41h;", "&#65\x00;", "&#\x0065;",
	} {
		holdEntity(t, wrong, read{})
	}
}

func TestEntitiesOfEveryNumber(t *testing.T) {
	for n := 0; n <= 0x110200; n++ {
		tens := "&#" + strconv.Itoa(n) + ";"
		holdEntity(t, tens, sure(n, len(tens)))
		sixteens := "&#x" + strconv.FormatInt(int64(n), 16) + ";"
		holdEntity(t, sixteens, sure(n, len(sixteens)))
	}
}

func TestHowLongEntitiesMayBe(t *testing.T) {
	for _, ahead := range []string{"&#", "&#x", "&#X"} {
		for n := 1; n <= 80; n++ {
			text := ahead + strings.Repeat("0", n) + "9;"
			want := read{}
			if len(text) <= 13 {
				want = read{9, len(text), true}
			}
			for _, behind := range []string{"", ";", "a", "&#9;"} {
				holdEntity(t, text+behind, want)
			}
		}
	}
	holdEntity(t, "&#0001114111;", read{0x10ffff, 13, true})
	holdEntity(t, "&#00001114111;", read{})
	holdEntity(t, "&#x00010FFFF;", read{0x10ffff, 13, true})
	holdEntity(t, "&#x000010FFFF;", read{})
	holdEntity(t, "&"+strings.Repeat("a", api.MaxFile)+";", read{})
	holdEntity(t, "&#"+strings.Repeat("0", api.MaxFile)+"65;", read{})
	holdEntity(t, "&"+strings.Repeat(";", api.MaxFile), read{})
}

func TestEntitiesWithAnyByte(t *testing.T) {
	for _, whole := range []string{"&amp;", "&apos;", "&gt;", "&lt;", "&nbsp;", "&quot;", "&#65;", "&#128512;", "&#xe4;", "&#X1F600;", "&#00000000065;", "&#0000000065;", "&#x000000041;"} {
		for at := range len(whole) {
			for c := range 256 {
				b := []byte(whole)
				b[at] = byte(c)
				holdEntity(t, string(b), entityOf(string(b)))
				more := whole[:at] + string([]byte{byte(c)}) + whole[at:]
				holdEntity(t, more, entityOf(more))
			}
		}
	}
}

func TestAllSmallEntities(t *testing.T) {
	eachText([]string{"&", "#", "x", "X", ";", "0", "9", "a", "F", "g"}, 5, func(text string) {
		holdEntity(t, text, entityOf(text))
		holdEntity(t, "&#"+text+";", entityOf("&#"+text+";"))
	})
	eachText([]string{"&", "amp", "ap", "os", "g", "l", "t", "nbsp", "quot", ";", "A"}, 4, func(text string) {
		holdEntity(t, text, entityOf(text))
		holdEntity(t, "&"+text+";", entityOf("&"+text+";"))
	})
}

// eachFormat hands over all numbers that a format may have, also those that are none.
func eachFormat(do func(f api.Format)) {
	for n := range 256 {
		do(api.Format(n))
	}
}

func TestEscapesOfTwoBytes(t *testing.T) {
	eachFormat(func(f api.Format) {
		for c := range 256 {
			want := read{rune(c), 2, true}
			switch {
			case c >= 128:
				want = read{}
			case f == api.Shell:
				if strings.IndexByte("\"\\$`", byte(c)) < 0 {
					want = read{}
				}
			case c == 'n':
				want.r = 10
			case c == 'r':
				want.r = 13
			case c == 't':
				want.r = 9
			case c == 'x' || c == 'u' || c == 'U':
				want = read{}
			}
			text := string([]byte{'\\', byte(c)})
			for _, behind := range []string{"", "g", "\\", "\\n", "\xff", "\n", "gggggggg", "\u00e4"} {
				holdEscape(t, f, text+behind, want)
			}
		}
	})
}

func TestEscapesThatAreNone(t *testing.T) {
	eachFormat(func(f api.Format) {
		for _, wrong := range []string{"", "\\", "a", "n", "an", "/n", "n\\", "a\\n", " \\n", "\"\\\"", "\xff", "\\\xff", "\\\xc3\xa4", "\\\x80", "\\\u20ac", "\\\U0001f600"} {
			holdEscape(t, f, wrong, read{})
		}
		if r, n, ok := Escape(f, nil); r != 0 || n != 0 || ok {
			t.Errorf("P15.1: Escape(%d, nil): %x, %d, %t", f, r, n, ok)
		}
	})
}

// others are formats whose escapes aren't a shell's, also numbers that no format has.
var others = []api.Format{api.Plain, api.Html, api.Mark, api.Tex, api.CLike, api.GoLike, api.Python, api.Sql, api.Formats, 255}

// counts are how many digits the escapes of numbers have.
var counts = map[string]int{"x": 2, "u": 4, "U": 8}

func TestEscapesOfNumbers(t *testing.T) {
	for _, c := range []struct {
		text string
		r    rune
	}{
		{`\x41`, 'A'}, {`\x01`, 1}, {`\x00`, 0}, {`\xe4`, 0xe4}, {`\xE4`, 0xe4}, {`\xfF`, 0xff}, {`\x7f`, 0x7f}, {`\x80`, 0x80}, {`\x0a`, 10},
		{`\u0041`, 'A'}, {`\u0001`, 1}, {`\u0000`, 0}, {`\u00e4`, 0xe4}, {`\u20AC`, 0x20ac}, {`\ud7ff`, 0xd7ff}, {`\ud800`, 0}, {`\uDBFF`, 0}, {`\uDC00`, 0}, {`\udfff`, 0}, {`\ue000`, 0xe000}, {`\uffff`, 0xffff}, {`\ufffd`, 0xfffd},
		{`\U00000041`, 'A'}, {`\U00000001`, 1}, {`\U00000000`, 0}, {`\U0001f600`, 0x1f600}, {`\U0001F600`, 0x1f600}, {`\U0000d7ff`, 0xd7ff}, {`\U0000d800`, 0}, {`\U0000DFFF`, 0}, {`\U0000e000`, 0xe000},
		{`\U0010ffff`, 0x10ffff}, {`\U00110000`, 0}, {`\U80000041`, 0}, {`\Uffffffff`, 0}, {`\U7fffffff`, 0}, {`\Uffff0041`, 0},
	} {
		want := read{}
		if c.r != 0 {
			want = read{c.r, len(c.text), true}
		}
		for _, f := range others {
			for _, behind := range []string{"", "0", "f", "g", ";", "\\", "\xff", "41414141"} {
				holdEscape(t, f, c.text+behind, want)
			}
		}
		holdEscape(t, api.Shell, c.text, read{})
	}
}

func TestEscapesWithTooFewDigits(t *testing.T) {
	for letter, n := range counts {
		digits := strings.Repeat("0", n-1) + "9"
		for _, f := range others {
			holdEscape(t, f, "\\"+letter+digits, read{9, 2 + n, true})
			for k := range n {
				for _, behind := range []string{"", "g", " ", ";", "\\", "\xff", "\n", "G", "_", "+", "-", "x", "\x00"} {
					holdEscape(t, f, "\\"+letter+digits[n-k:]+behind, read{})
					if behind != "" {
						holdEscape(t, f, "\\"+letter+digits[n-k:]+behind+digits, read{})
					}
				}
				// More digits are in the room behind, and none of these bytes.
				whole := []byte("\\" + letter + digits)
				if r, m, ok := Escape(f, whole[:2+k]); r != 0 || m != 0 || ok {
					t.Errorf("P15.1: Escape(%d, %q): %x, %d, %t", f, whole[:2+k], r, m, ok)
				}
			}
		}
	}
}

func TestEscapesWithAnyByte(t *testing.T) {
	for _, whole := range []string{`\x41`, `\u00e4`, `\U0001f600`, `\n`, `\"`, `\$`} {
		for at := range len(whole) {
			for c := range 256 {
				b := []byte(whole)
				b[at] = byte(c)
				more := whole[:at] + string([]byte{byte(c)}) + whole[at:]
				for _, f := range append(slices.Clone(others), api.Shell) {
					holdEscape(t, f, string(b), escapeOf(f, string(b)))
					holdEscape(t, f, more, escapeOf(f, more))
				}
			}
		}
	}
}

func TestEscapesOfEveryNumber(t *testing.T) {
	for n := 0; n <= 0x110200; n++ {
		digits := strconv.FormatInt(int64(n), 16)
		for letter, k := range counts {
			if len(digits) <= k {
				text := "\\" + letter + strings.Repeat("0", k-len(digits)) + digits
				holdEscape(t, api.GoLike, text, sure(n, len(text)))
			}
		}
	}
}

func TestAllSmallEscapes(t *testing.T) {
	eachText([]string{"\\", "x", "u", "U", "0", "9", "a", "F", "n", "\""}, 5, func(text string) {
		for _, f := range []api.Format{api.Python, api.Shell} {
			holdEscape(t, f, text, escapeOf(f, text))
			holdEscape(t, f, "\\"+text, escapeOf(f, "\\"+text))
		}
	})
}

// line is what Units must answer of a text of one label.
type line struct {
	f     api.Format
	l     api.Label
	text  string
	runes []rune
	// lens are how many bytes each has.
	lens []int
}

func TestUnits(t *testing.T) {
	for _, c := range []line{
		{api.Html, api.Prose, "", nil, nil},
		{api.Html, api.Prose, "a&amp;b", []rune("a&b"), []int{1, 5, 1}},
		{api.Html, api.Prose, "&#228;\u00e4&auml;", []rune("\u00e4\u00e4&auml;"), []int{6, 2, 1, 1, 1, 1, 1, 1}},
		{api.Html, api.Prose, "&amp;amp;", []rune("&amp;"), []int{5, 1, 1, 1, 1}},
		{api.Html, api.Prose, "&&lt;&", []rune("&<&"), []int{1, 4, 1}},
		{api.Html, api.Prose, "\\&\\&lt;", []rune("\\&\\<"), []int{1, 1, 1, 4}},
		{api.Html, api.Prose, "''\\n", []rune("''\\n"), []int{1, 1, 1, 1}},
		{api.Mark, api.Prose, "a&amp;b", []rune("a&b"), []int{1, 5, 1}},
		{api.Mark, api.Prose, "\\*a\\*", []rune("*a*"), []int{2, 1, 2}},
		{api.Mark, api.Prose, "\\&lt;", []rune("&lt;"), []int{2, 1, 1, 1}},
		{api.Mark, api.Prose, "\\\\&lt;", []rune("\\<"), []int{2, 4}},
		{api.Mark, api.Prose, "\\\\\\a", []rune("\\\\a"), []int{2, 1, 1}},
		{api.Mark, api.Prose, "&\\#65;", []rune("&#65;"), []int{1, 2, 1, 1, 1}},
		{api.Mark, api.Prose, "\\n\\9\\ \\\n\\\u00e4\\", []rune("\\n\\9\\ \\\n\\\u00e4\\"), []int{1, 1, 1, 1, 1, 1, 1, 1, 1, 2, 1}},
		{api.Mark, api.Prose, "''", []rune("''"), []int{1, 1}},
		{api.Sql, api.Quoted, "a''b'c", []rune("a'b'c"), []int{1, 2, 1, 1, 1}},
		{api.Sql, api.Quoted, "'''", []rune("''"), []int{2, 1}},
		{api.Sql, api.Quoted, "''''", []rune("''"), []int{2, 2}},
		{api.Sql, api.Quoted, "' '", []rune("' '"), []int{1, 1, 1}},
		{api.Sql, api.Quoted, "\"\"\\n&lt;", []rune("\"\"\\n&lt;"), []int{1, 1, 1, 1, 1, 1, 1, 1}},
		{api.CLike, api.Quoted, "a\\tb\\x41\\\\n", []rune("a\tbA\\n"), []int{1, 2, 1, 4, 2, 1}},
		{api.GoLike, api.Quoted, "\\u00e4\\U0001f600\\q", []rune("\u00e4\U0001f600q"), []int{6, 10, 2}},
		{api.Python, api.Quoted, "\\x4\\xg1\\ud800", []rune("\\x4\\xg1\\ud800"), []int{1, 1, 1, 1, 1, 1, 1, 1, 1, 1, 1, 1, 1}},
		{api.Python, api.Quoted, "\\\n\\\u00e4\\", []rune("\n\\\u00e4\\"), []int{2, 1, 2, 1}},
		{api.Python, api.Quoted, "''&lt;", []rune("''&lt;"), []int{1, 1, 1, 1, 1, 1}},
		{api.Shell, api.Quoted, "\\$\\n\\`\\\\\\\"\\x41", []rune("$\\n`\\\"\\x41"), []int{2, 1, 1, 2, 2, 2, 1, 1, 1, 1}},
		{api.Shell, api.Quoted, "\\'\\\n", []rune("\\'\\\n"), []int{1, 1, 1, 1}},
		// What stands for others elsewhere is what it is.
		{api.Plain, api.Prose, "&lt;\\*", []rune("&lt;\\*"), []int{1, 1, 1, 1, 1, 1}},
		{api.Tex, api.Prose, "&lt;\\*", []rune("&lt;\\*"), []int{1, 1, 1, 1, 1, 1}},
		{api.GoLike, api.Prose, "\\n&lt;", []rune("\\n&lt;"), []int{1, 1, 1, 1, 1, 1}},
		{api.GoLike, api.Raw, "\\n&lt;", []rune("\\n&lt;"), []int{1, 1, 1, 1, 1, 1}},
		{api.Shell, api.Raw, "\\$", []rune("\\$"), []int{1, 1}},
		{api.Sql, api.Raw, "''", []rune("''"), []int{1, 1}},
		{api.Sql, api.Prose, "''", []rune("''"), []int{1, 1}},
		{api.Html, api.Quoted, "&lt;", []rune("&lt;"), []int{1, 1, 1, 1}},
		{api.Mark, api.Code, "&lt;\\*", []rune("&lt;\\*"), []int{1, 1, 1, 1, 1, 1}},
		{api.Plain, api.Quoted, "\\n''", []rune("\\n''"), []int{1, 1, 1, 1}},
		{api.Tex, api.Quoted, "\\n", []rune("\\n"), []int{1, 1}},
		{none, api.Prose, "&lt;\\*", []rune("&lt;\\*"), []int{1, 1, 1, 1, 1, 1}},
		{none, api.Quoted, "\\n''", []rune("\\n''"), []int{1, 1, 1, 1}},
		{api.Html, 0, "&lt;", []rune("&lt;"), []int{1, 1, 1, 1}},
		// Bytes that are no signs.
		{api.Html, api.Prose, "\xff&lt;\xc3", []rune{-1, '<', -1}, []int{1, 4, 1}},
		{api.Mark, api.Prose, "\\\xc3\xa4\\\xc3", []rune{'\\', 0xe4, '\\', -1}, []int{1, 2, 1, 1}},
		{api.CLike, api.Quoted, "\\\xff\\\"", []rune{'\\', -1, '"'}, []int{1, 1, 2}},
		{api.Plain, api.Prose, "\xed\xa0\x80\u20ac", []rune{-1, -1, -1, 0x20ac}, []int{1, 1, 1, 3}},
		{api.Plain, api.Prose, "\xef\xbf\xbd\x00", []rune{0xfffd, 0}, []int{3, 1}},
	} {
		for _, ahead := range []string{"", "&", "\\", "'", "\xc3", "\u00e4&"} {
			var want []api.Unit
			at := len(ahead)
			for i, r := range c.runes {
				want = append(want, unit(r, at, c.lens[i]))
				at += c.lens[i]
			}
			whole := ahead + c.text + "lt;'\\n"
			l, e := Units(c.f, []byte(whole), seg(c.l, len(ahead), len(c.text)))
			if e != api.OK || !slices.Equal(l, want) {
				t.Errorf("P15.2: Units(%d, %q, %d): %v, %d, not %v", c.f, c.text, c.l, l, e, want)
			}
			if got := signsOf(c.f, whole, seg(c.l, len(ahead), len(c.text))); !slices.Equal(got, want) {
				t.Errorf("the second reader's signs of %d, %q, %d: %v, not %v", c.f, c.text, c.l, got, want)
			}
		}
	}
}

func TestBackslashesInMarkdown(t *testing.T) {
	signs := "!\"#$%&'()*+,-./:;<=>?@[\\]^_`{|}~"
	for c := range 256 {
		text := []byte{'\\', byte(c)}
		l, e := Units(api.Mark, text, seg(api.Prose, 0, 2))
		if one := strings.IndexByte(signs, byte(c)) >= 0; e != api.OK || one != (len(l) == 1) || one && l[0] != unit(rune(c), 0, 2) {
			t.Errorf("P15.2: a backslash and the byte %d: %v, %d", c, l, e)
		}
		holdWhole(t, api.Mark, api.Prose, string(text))
		holdWhole(t, api.Html, api.Prose, string(text))
	}
}

// pieces are of all that some format or label reads as another sign, and of what is near to that.
var pieces = []string{
	"a", "Z9", " ", "\n", "\\", "\\", "'", "''", "\"", "`", "$", "&", ";", "#", "&amp;", "&lt;", "&nbsp;", "&quot", "&#", "&#x", "65;", "&#65;", "&#xE4;", "&#0;", "&#00000000065;",
	"\\n", "\\r", "\\t", "\\x", "\\u", "\\U", "\\*", "\\&", "41", "00e4", "0001f600", "\\x41", "\\u20ac", "\\U0010ffff", "\\U00110000", "\u00e4", "\u20ac", "\U0001f600", "\xff", "\xc3", "\xe2\x82", "\x00",
}

func TestEveryFormatAndLabel(t *testing.T) {
	text := strings.Join(pieces, "") + strings.Join(pieces, " ")
	eachFormat(func(f api.Format) {
		for l := range 16 {
			holdWhole(t, f, api.Label(l), text)
		}
		holdWhole(t, f, 255, text)
	})
}

// roles are formats and labels of which each reads other things.
var roles = []line{
	{f: api.Plain, l: api.Prose}, {f: api.Html, l: api.Prose}, {f: api.Mark, l: api.Prose}, {f: api.Tex, l: api.Prose}, {f: api.CLike, l: api.Prose},
	{f: api.CLike, l: api.Quoted}, {f: api.GoLike, l: api.Quoted}, {f: api.Python, l: api.Quoted}, {f: api.Shell, l: api.Quoted}, {f: api.Sql, l: api.Quoted},
	{f: api.GoLike, l: api.Raw}, {f: api.Html, l: api.Markup}, {f: none, l: api.Quoted}, {f: none, l: api.Prose},
}

// scenes are texts with something of all formats.
var scenes = []string{
	"a&amp;b&#228;\\*c\\&lt;'d''e'\\n\\x41\\u00e4\\U0001f600\\\"\\$",
	"\u00e4\\\u00e4&\u20ac;\xff\\\xff''' \\' \xc3\\",
	"&&amp;;&#x10FFFF;\\\\&lt;\\\\\\&gt;\\ud800\\\n",
	strings.Repeat("\\", 9) + strings.Repeat("'", 7) + strings.Repeat("&", 5) + ";",
}

func TestWithinTheSpanAlone(t *testing.T) {
	for _, c := range roles {
		for _, text := range scenes {
			for at := range len(text) + 1 {
				for n := range len(text) - at + 1 {
					holdUnits(t, c.f, text, seg(c.l, at, n))
				}
			}
		}
	}
	cut := []struct {
		c     line
		parts []rune
	}{
		{line{f: api.Html, l: api.Prose, text: "&lt;"}, []rune("&lt")},
		{line{f: api.Mark, l: api.Prose, text: "&#65;"}, []rune("&#65")},
		{line{f: api.Mark, l: api.Prose, text: "\\*"}, []rune("\\")},
		{line{f: api.Sql, l: api.Quoted, text: "''"}, []rune("'")},
		{line{f: api.GoLike, l: api.Quoted, text: "\\n"}, []rune("\\")},
		{line{f: api.GoLike, l: api.Quoted, text: "\\x41"}, []rune("\\x4")},
		{line{f: api.Python, l: api.Quoted, text: "\\U00000041"}, []rune("\\U0000004")},
		{line{f: api.Shell, l: api.Quoted, text: "\\$"}, []rune("\\")},
		{line{f: api.Plain, l: api.Prose, text: "\u00e4"}, []rune{-1}},
	}
	for _, c := range cut {
		l, e := Units(c.c.f, []byte(c.c.text), seg(c.c.l, 0, len(c.c.text)-1))
		var got []rune
		for _, u := range l {
			got = append(got, u.Rune)
		}
		if e != api.OK || !slices.Equal(got, c.parts) {
			t.Errorf("P15.2: %q without its last byte: %q, %d", c.c.text, got, e)
		}
	}
}

func TestSpansThatAreNone(t *testing.T) {
	ends := []int{math.MinInt, math.MinInt + 1, -api.MaxFile, -3, -1, 0, 1, 2, 3, 4, 5, api.MaxFile, math.MaxInt - 1, math.MaxInt}
	for _, b := range [][]byte{nil, {}, []byte("a"), []byte("a&lt;")[:3], []byte("a&lt;")} {
		for _, at := range ends {
			for _, n := range ends {
				for _, c := range roles {
					l, e := Units(c.f, b, seg(c.l, at, n))
					if at >= 0 && n >= 0 && at <= len(b) && n <= len(b)-at {
						if e != api.OK || !slices.Equal(l, signsOf(c.f, string(b), seg(c.l, at, n))) {
							t.Errorf("P15.2: Units(%d, %q, {%d %d}): %v, %d", c.f, b, at, n, l, e)
						}
					} else if e != api.ErrRange || l != nil {
						t.Errorf("P15.2, R3: Units(%d, %q, {%d %d}): %v, %d, not none, %d", c.f, b, at, n, l, e, api.ErrRange)
					}
				}
			}
		}
	}
}

func TestNoBytes(t *testing.T) {
	eachFormat(func(f api.Format) {
		for _, at := range []int{0, 1, 3} {
			if l, e := Units(f, []byte("a&b"), seg(api.Prose, at, 0)); len(l) != 0 || e != api.OK {
				t.Errorf("P15.2: Units(%d) of no bytes at %d: %v, %d", f, at, l, e)
			}
		}
		if l, e := Units(f, []byte("a&b"), seg(api.Prose, 4, 0)); l != nil || e != api.ErrRange {
			t.Errorf("P15.2, R3: Units(%d) of no bytes at 4 of 3: %v, %d", f, l, e)
		}
		if l, e := Units(f, nil, seg(api.Quoted, 0, 0)); len(l) != 0 || e != api.OK {
			t.Errorf("P15.2: Units(%d) of nothing: %v, %d", f, l, e)
		}
	})
}

func TestAllSmallTexts(t *testing.T) {
	eachText([]string{"\\", "&", "'", ";", "lt", "#", "x", "41", "n", "\"", "\xc3", "\xa4"}, 4, func(text string) {
		for _, c := range roles {
			holdWhole(t, c.f, c.l, text)
		}
	})
}

func TestAnyPieces(t *testing.T) {
	r := rand.New(rand.NewSource(16))
	for range 20000 {
		var text strings.Builder
		for range r.Intn(30) {
			text.WriteString(pieces[r.Intn(len(pieces))])
		}
		c := roles[r.Intn(len(roles))]
		at := r.Intn(text.Len() + 1)
		holdUnits(t, c.f, text.String(), seg(c.l, at, r.Intn(text.Len()-at+1)))
	}
}

func TestAnyBytes(t *testing.T) {
	r := rand.New(rand.NewSource(17))
	for range 5000 {
		b := make([]byte, r.Intn(100))
		for i := range b {
			b[i] = byte(r.Intn(256))
		}
		c := roles[r.Intn(len(roles))]
		holdWhole(t, c.f, c.l, string(b))
		holdEntity(t, "&"+string(b), entityOf("&"+string(b)))
		holdEscape(t, c.f, "\\"+string(b), escapeOf(c.f, "\\"+string(b)))
	}
}

// TestWholeFiles: as many bytes as a file may have, and one more, for which the chapter names no error.
func TestWholeFiles(t *testing.T) {
	for _, piece := range []string{"a", "&", "&lt;", "&#65", "&#0000000065;", "\\", "\\x41", "\\U0001f600", "'", "\u00e4", "\xff", "&aaaaaaaaaaa"} {
		text := strings.Repeat(piece, api.MaxFile/len(piece)+2)
		for _, c := range roles {
			holdUnits(t, c.f, text[:api.MaxFile+1], seg(c.l, 1, api.MaxFile))
		}
		holdWhole(t, api.Mark, api.Prose, text[:api.MaxFile])
		holdWhole(t, api.Python, api.Quoted, text[:api.MaxFile+1])
	}
}

func TestText(t *testing.T) {
	for _, c := range []struct {
		runes []rune
		want  string
	}{
		{nil, ""},
		{[]rune{}, ""},
		{[]rune("a&b"), "a&b"},
		{[]rune{0}, "\x00"},
		{[]rune{0xe4, 0x20ac, 0x1f600}, "\xc3\xa4\xe2\x82\xac\xf0\x9f\x98\x80"},
		{[]rune{'a', -1, 'b'}, "ab"},
		{[]rune{-1}, ""},
		{[]rune{0xd7ff, 0xd800, 0xdfff, 0xe000}, "\xed\x9f\xbf\xee\x80\x80"},
		{[]rune{0x10ffff, 0x110000, math.MaxInt32, math.MinInt32, -2}, "\xf4\x8f\xbf\xbf"},
		{[]rune{0xfffd}, "\xef\xbf\xbd"},
	} {
		var l []api.Unit
		for i, r := range c.runes {
			// A text doesn't hang on where its signs stand.
			l = append(l, unit(r, 7-i*i, i-1))
		}
		if got := Text(l); got != c.want {
			t.Errorf("P15.3: Text(%x): %q, not %q", c.runes, got, c.want)
		}
	}
}

func TestLiteral(t *testing.T) {
	for _, c := range []struct {
		text string
		l    []api.Unit
		want bool
	}{
		{"", nil, true},
		{"", []api.Unit{}, true},
		{"a", nil, true},
		{"\xff", nil, true},
		{"a", []api.Unit{unit('a', 0, 1)}, true},
		{"a", []api.Unit{unit('b', 0, 1)}, false},
		{"ab", []api.Unit{unit('b', 1, 1)}, true},
		{"ab", []api.Unit{unit('b', 0, 1)}, false},
		{"abc", []api.Unit{unit('a', 0, 1), unit('b', 1, 1)}, true},
		{"abc", []api.Unit{unit('b', 1, 1), unit('c', 2, 1)}, true},
		{"\u00e4b", []api.Unit{unit(0xe4, 0, 2), unit('b', 2, 1)}, true},
		{"a&amp;b", []api.Unit{unit('a', 0, 1), unit('&', 1, 5), unit('b', 6, 1)}, false},
		{"a&amp;b", []api.Unit{unit('&', 1, 5)}, false},
		{"a&amp;b", []api.Unit{unit('&', 1, 5), unit('b', 6, 1)}, false},
		{"a&amp;b", []api.Unit{unit('a', 0, 1)}, true},
		{"\\n", []api.Unit{unit('n', 0, 2)}, false},
		{"''", []api.Unit{unit('\'', 0, 2)}, false},
		// Entities and escapes take more bytes than their signs; another part may come between.
		{"ab", []api.Unit{unit('a', 0, 1), unit('b', 0, 2)}, true},
		{"a-b", []api.Unit{unit('a', 0, 1), unit('b', 2, 1)}, false},
		{"abc", []api.Unit{unit('a', 0, 1), unit('b', 9, 9), unit('c', 2, 1)}, true},
		{"abc", []api.Unit{unit('a', 0, 9), unit('b', 1, 1)}, true},
		{"abc", []api.Unit{unit('a', 0, -9), unit('b', 1, 1)}, true},
		// Bytes that are no signs aren't in the text.
		{"\xff", []api.Unit{unit(-1, 0, 1)}, false},
		{"a\xff", []api.Unit{unit('a', 0, 1), unit(-1, 1, 1)}, false},
		{"\xffa", []api.Unit{unit('a', 1, 1)}, true},
		{"\xef\xbf\xbd", []api.Unit{unit(0xfffd, 0, 3)}, true},
		{"\xed\xa0\x80", []api.Unit{unit(0xd800, 0, 3)}, false},
		// As many bytes, others.
		{"ab", []api.Unit{unit('b', 0, 1), unit('a', 1, 1)}, false},
		{"aB", []api.Unit{unit('a', 0, 1), unit('b', 1, 1)}, false},
		// Nothing at a place that is there.
		{"ab", []api.Unit{unit('a', 0, 0)}, false},
		{"ab", []api.Unit{unit(-1, 1, 0)}, true},
		{"ab", []api.Unit{unit(-1, 2, 0)}, true},
		// The last one's end is asked for alone, not where its span lies.
		{"ab", []api.Unit{unit('a', 0, 1), unit('b', 3, -1)}, true},
		{"ab", []api.Unit{unit('a', 0, 1), unit('b', -1, 3)}, true},
		{"ab", []api.Unit{unit('a', 0, 1), unit('b', 2, 0)}, true},
		{"ab", []api.Unit{unit('a', 0, 1), unit('b', 0, 2)}, true},
		{"ab", []api.Unit{unit('a', 0, 1), unit('b', 9, -7)}, true},
		{"ab", []api.Unit{unit('a', 0, 1), unit('b', -7, 9)}, true},
		{"ab", []api.Unit{unit('a', 0, 1), unit('b', math.MaxInt, 2-math.MaxInt)}, true},
		{"ab", []api.Unit{unit('a', 0, 1), unit('b', 2-math.MaxInt, math.MaxInt)}, true},
		{"ab", []api.Unit{unit('a', 0, 1), unit('b', 2, -1)}, false},
		{"ab", []api.Unit{unit('a', 0, 9), unit(-1, 2, -1)}, true},
		{"ab", []api.Unit{unit('a', 0, 9), unit(-1, -1, 2)}, true},
		{"ab", []api.Unit{unit('b', 1, 0), unit(-1, 3, -1)}, true},
		{"ab", []api.Unit{unit(-1, 2, 0), unit(-1, 3, -1)}, true},
		{"ab", []api.Unit{unit(-1, 0, 0), unit(-1, math.MaxInt, -math.MaxInt)}, true},
		{"ab", []api.Unit{unit(-1, 0, 0), unit(-1, -math.MaxInt, math.MaxInt)}, true},
		{"", []api.Unit{unit(-1, 0, 0), unit(-1, 1, -1)}, true},
		{"", []api.Unit{unit(-1, 0, 0), unit(-1, -1, 1)}, true},
	} {
		if got := Literal([]byte(c.text), c.l); got != c.want {
			t.Errorf("P15.3: Literal(%q, %v): %t", c.text, c.l, got)
		}
	}
}

func TestLiteralWithoutSuchBytes(t *testing.T) {
	for _, l := range [][]api.Unit{
		{unit('c', 2, 1)}, {unit('b', 1, 2)}, {unit('a', -1, 1)}, {unit('a', -1, 2)}, {unit('a', 1, -1)}, {unit('a', 2, -1)}, {unit('a', 3, -3)},
		{unit(-1, 3, 0)}, {unit(-1, -1, 0)}, {unit(-1, -1, 1)}, {unit(-1, 1, -1)}, {unit(-1, 2, -2)},
		{unit('b', 1, 1), unit('a', 0, 1)}, {unit(-1, 2, 0), unit(-1, 0, 1)}, {unit(-1, 2, 0), unit(-1, 1, 0)}, {unit(-1, 3, -1), unit(-1, 3, 0)},
		{unit('a', 0, 1), unit('b', 1, 2)}, {unit('a', 0, 1), unit('b', 2, 1)}, {unit('a', -1, 1), unit('b', 0, 1)}, {unit('a', -1, 1), unit('b', 1, 1)}, {unit('a', 2, 1), unit('b', 1, 1)},
		{unit('a', math.MaxInt, 1)}, {unit('a', 1, math.MaxInt)}, {unit('a', math.MaxInt, math.MaxInt)}, {unit('a', math.MinInt, 1)}, {unit('a', 0, math.MinInt)}, {unit('a', math.MinInt, math.MinInt)},
		{unit('a', 0, 1), unit('b', math.MaxInt, 1)}, {unit('a', math.MinInt, 1), unit('b', 1, 1)}, {unit('a', math.MaxInt, 1), unit('b', 1, 1)},
		// The end is behind the bytes, below 0, or ahead of where the first begins, though At or Len alone is a place of theirs.
		{unit('a', 0, 1), unit('b', 4, -1)}, {unit('a', 0, 1), unit('b', -1, 4)}, {unit('a', 0, 1), unit('b', 0, -1)}, {unit(-1, 0, 1), unit(-1, -1, 0)},
		{unit('a', 1, 1), unit(-1, 3, -3)}, {unit(-1, 2, 0), unit(-1, 2, -1)}, {unit(-1, 2, 0), unit(-1, -1, 2)}, {unit('a', -1, 1), unit('b', 3, -1)},
		{unit(-1, 0, 0), unit(-1, math.MaxInt, math.MinInt)}, {unit(-1, 0, 0), unit(-1, math.MinInt, math.MaxInt)}, {unit('a', 0, 1), unit('b', math.MaxInt, 3-math.MaxInt)}, {unit('a', 0, 1), unit('b', 3-math.MaxInt, math.MaxInt)},
		{unit('a', 0, 1), unit('b', 1, 1), unit('c', 4, -1)}, {unit('a', 0, 1), unit('b', 1, 1), unit('c', -1, 4)}, {unit('b', 1, 1), unit('c', math.MaxInt, 3-math.MaxInt)},
		// Sums that wrap round come to places that are there.
		{unit(-1, 0, 0), unit(-1, math.MinInt, math.MinInt)}, {unit('a', 0, 1), unit('b', math.MinInt, math.MinInt+2)}, {unit('a', 0, 1), unit('b', math.MinInt+1, math.MinInt+1)}, {unit(-1, 0, 0), unit(-1, -1, math.MinInt)},
	} {
		// What would be wanted stands in the room behind.
		if Literal([]byte("abc")[:2], l) {
			t.Errorf("P15.3: Literal(ab, %v): true", l)
		}
		if Literal(nil, l) {
			t.Errorf("P15.3: Literal(nil, %v): true", l)
		}
	}
}

func TestLiteralOfAnyUnits(t *testing.T) {
	r := rand.New(rand.NewSource(18))
	ends := []int{math.MinInt, math.MinInt + 1, math.MinInt + 2, -3, -2, -1, -1, 0, 0, 1, 1, 2, 3, 4, 5, math.MaxInt - 1, math.MaxInt}
	runes := []rune{'a', 'a', 'b', 0xe4, -1, 0xd800, 0x110000}
	for range 300000 {
		text := []string{"", "a", "aa", "ab", "a\u00e4b", "\xff\xc3\xa4"}[r.Intn(6)]
		var l []api.Unit
		for range 1 + r.Intn(3) {
			l = append(l, unit(runes[r.Intn(len(runes))], ends[r.Intn(len(ends))], ends[r.Intn(len(ends))]))
		}
		from, last := l[0].Span.At, l[len(l)-1].Span
		// Numbers without an end have room for every sum.
		end := new(big.Int).Add(big.NewInt(int64(last.At)), big.NewInt(int64(last.Len)))
		want := false
		if end.Sign() >= 0 && end.Cmp(big.NewInt(int64(len(text)))) <= 0 {
			to := int(end.Int64())
			want = from >= 0 && from <= to && text[from:to] == textOf(l)
		}
		before := slices.Clone(l)
		if got := Literal([]byte(text), l); got != want {
			t.Fatalf("P15.3: Literal(%q, %v): %t", text, l, got)
		}
		if got := Text(l); got != textOf(l) {
			t.Fatalf("P15.3: Text(%v): %q", l, got)
		}
		if !slices.Equal(l, before) {
			t.Fatalf("R6: the signs %v are changed: %v", before, l)
		}
	}
}

// TestPartsOfUnits: of what Units answers, those stand literally whose bytes are what they say.
func TestPartsOfUnits(t *testing.T) {
	for _, c := range roles {
		for _, text := range scenes {
			b := []byte(text)
			l, _ := Units(c.f, b, seg(c.l, 0, len(b)))
			for from := range l {
				for to := from + 1; to <= len(l); to++ {
					end := len(b)
					if to < len(l) {
						end = l[to].Span.At
					}
					if want := text[l[from].Span.At:end] == textOf(l[from:to]); Literal(b, l[from:to]) != want {
						t.Fatalf("P15.3: Literal(%q, %v): %t", text, l[from:to], !want)
					}
				}
			}
		}
	}
}

func TestSpareRoomIsNotRead(t *testing.T) {
	for _, c := range roles {
		for _, full := range scenes {
			for n := range len(full) + 1 {
				b := []byte(full)
				l, e := Units(c.f, b[:n], seg(c.l, 0, n))
				if want := signsOf(c.f, full[:n], seg(c.l, 0, n)); e != api.OK || !slices.Equal(l, want) {
					t.Fatalf("R6: Units(%d, %q), room behind it: %v, %d", c.f, full[:n], l, e)
				}
				if n < len(full) {
					if l, e := Units(c.f, b[:n], seg(c.l, 0, n+1)); l != nil || e != api.ErrRange {
						t.Fatalf("P15.2: Units(%d) of %d bytes of %d: %v, %d", c.f, n+1, n, l, e)
					}
				}
				if string(b) != full {
					t.Fatalf("R6: the bytes or the room behind %q are changed: %q", full[:n], b)
				}
			}
		}
	}
}

func TestAnswersAreNewMemory(t *testing.T) {
	for _, c := range roles {
		for _, full := range scenes {
			b := []byte(full)
			s := seg(c.l, 0, len(b))
			one, _ := Units(c.f, b, s)
			two, _ := Units(c.f, b, s)
			text := Text(two)
			clear(one)
			clear(b)
			if !slices.Equal(two, signsOf(c.f, full, s)) {
				t.Errorf("R6: signs are changed with other ones, or with the bytes: %v", two)
			}
			clear(two)
			if text != textOf(signsOf(c.f, full, s)) {
				t.Errorf("R6: a text is changed with its signs: %q", text)
			}
		}
	}
}

func TestAnswersHangOnArgumentsAlone(t *testing.T) {
	for range 3 {
		for _, c := range roles {
			for _, text := range slices.Concat(scenes, pieces) {
				holdWhole(t, c.f, c.l, text)
				holdEntity(t, text, entityOf(text))
				holdEscape(t, c.f, text, escapeOf(c.f, text))
			}
		}
	}
}

func FuzzUnits(f *testing.F) {
	for _, c := range roles {
		for _, text := range scenes {
			f.Add(uint8(c.f), uint8(c.l), text, 0, len(text))
		}
	}
	f.Fuzz(func(t *testing.T, format, label uint8, text string, at, n int) {
		holdEntity(t, text, entityOf(text))
		holdEscape(t, api.Format(format), text, escapeOf(api.Format(format), text))
		holdWhole(t, api.Format(format), api.Label(label), text)
		b := bytes.Clone([]byte(text))
		if at >= 0 && n >= 0 && at <= len(b) && n <= len(b)-at {
			holdUnits(t, api.Format(format), text, seg(api.Label(label), at, n))
		} else if l, e := Units(api.Format(format), b, seg(api.Label(label), at, n)); l != nil || e != api.ErrRange {
			t.Fatalf("P15.2, R3: Units of {%d %d} of %d bytes: %v, %d", at, n, len(b), l, e)
		}
	})
}
