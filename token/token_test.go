package token

import (
	"bytes"
	"math"
	"math/big"
	"math/rand"
	"regexp"
	"slices"
	"strings"
	"testing"
	"unicode/utf8"

	"redpen/api"
	"redpen/decode"
	"redpen/utf"
)

// The letters of chapter 4, as patterns' classes.
const (
	greats  = `A-Z\x{c0}-\x{d6}\x{d8}-\x{de}`
	smalls  = `a-z\x{e0}-\x{f6}\x{f8}-\x{fe}`
	others  = `\x{df}\x{ff}-\x{24f}\x{370}-\x{52f}`
	letters = `[` + greats + smalls + others + `]+`
)

var (
	runForm   = regexp.MustCompile(letters + `(?:'` + letters + `)*`)
	greatForm = regexp.MustCompile(`\A[` + greats + `]\z`)
	smallForm = regexp.MustCompile(`\A[` + smalls + `]\z`)
)

// shown is a rune as a pattern can read it: a blank, if it is none.
func shown(r rune) rune {
	if !utf8.ValidRune(r) {
		return ' '
	}
	return r
}

// runsOf is Runs by patterns.
func runsOf(l []api.Unit) [][2]int {
	var b strings.Builder
	places := make([]int, 4*len(l)+1)
	for i, u := range l {
		places[b.Len()] = i
		b.WriteRune(shown(u.Rune))
	}
	places[b.Len()] = len(l)
	var runs [][2]int
	for _, m := range runForm.FindAllStringIndex(b.String(), -1) {
		runs = append(runs, [2]int{places[m[0]], places[m[1]]})
	}
	return runs
}

// kinds pictures signs: A for great letters, a for their small ones, a point for all else.
func kinds(l []api.Unit) string {
	var b strings.Builder
	for _, u := range l {
		switch s := string(shown(u.Rune)); {
		case greatForm.MatchString(s):
			b.WriteByte('A')
		case smallForm.MatchString(s):
			b.WriteByte('a')
		default:
			b.WriteByte('.')
		}
	}
	return b.String()
}

// splitOf is Split by a picture of the run.
func splitOf(l []api.Unit, run [2]int) [][2]int {
	from, to := run[0], run[1]
	if from < 0 {
		from = 0
	}
	if to > len(l) {
		to = len(l)
	}
	if from >= to {
		return nil
	}
	picture := kinds(l[from:to])
	cuts := []int{0}
	for i := range picture {
		if strings.HasSuffix(picture[:i], "a") && picture[i] == 'A' ||
			strings.HasSuffix(picture[:i], "A") && strings.HasPrefix(picture[i:], "Aa") {
			cuts = append(cuts, i)
		}
	}
	cuts = append(cuts, len(picture))
	var parts [][2]int
	for i := range cuts[1:] {
		parts = append(parts, [2]int{from + cuts[i], from + cuts[i+1]})
	}
	return parts
}

// within reckons with numbers of any size where a span from one span's beginning up to another's end ends, and how long it is.
func within(first, last api.Span) (end, length *big.Int) {
	end = new(big.Int).Add(big.NewInt(int64(last.At)), big.NewInt(int64(last.Len)))
	return end, new(big.Int).Sub(end, big.NewInt(int64(first.At)))
}

// wordOf is the word of signs by hand; false: no int tells how long its span is.
func wordOf(b []byte, l []api.Unit) (api.Word, bool) {
	var text strings.Builder
	for _, u := range l {
		text.WriteRune(u.Rune)
	}
	first, last := l[0].Span, l[len(l)-1].Span
	end, length := within(first, last)
	if !length.IsInt64() {
		return api.Word{}, false
	}
	w := api.Word{Text: text.String(), Span: api.Span{At: first.At, Len: int(length.Int64())}}
	if first.At >= 0 && w.Span.Len >= 0 && end.Cmp(big.NewInt(int64(len(b)))) <= 0 {
		w.Literal = string(b[first.At:int(end.Int64())]) == w.Text
	}
	return w, true
}

// wordsOf is Words by the second readers of runs, parts and words.
func wordsOf(t *testing.T, b []byte, l []api.Unit, least, most int) []api.Word {
	t.Helper()
	var words []api.Word
	for _, run := range runsOf(l) {
		for _, part := range splitOf(l, run) {
			if n := part[1] - part[0]; n < least || n > most {
				continue
			}
			w, ok := wordOf(b, l[part[0]:part[1]])
			if !ok {
				t.Fatalf("no int tells how long %v is", l[part[0]:part[1]])
			}
			words = append(words, w)
		}
	}
	return words
}

func unit(r rune, at, n int) api.Unit {
	return api.Unit{Rune: r, Span: api.Span{At: at, Len: n}}
}

// runes are signs that stand one behind the other, a byte each.
func runes(rs ...rune) []api.Unit {
	var l []api.Unit
	for i, r := range rs {
		l = append(l, unit(r, i, 1))
	}
	return l
}

// texts are the bytes of parts of a text's signs.
func texts(text string, l []api.Unit, parts [][2]int) []string {
	var s []string
	for _, p := range parts {
		last := l[p[1]-1].Span
		s = append(s, text[l[p[0]].Span.At:last.At+last.Len])
	}
	return s
}

// fields are what stands between blanks.
func fields(s string) []string { return strings.Fields(s) }

func holdRuns(t *testing.T, l []api.Unit) {
	t.Helper()
	before := slices.Clone(l)
	got := Runs(l)
	if want := runsOf(l); !slices.Equal(got, want) {
		t.Fatalf("P16.1: Runs(%.300v): %.300v, not %.300v", l, got, want)
	}
	if !slices.Equal(l, before) {
		t.Fatalf("R6: Runs(%.300v) changed the signs", before)
	}
}

func holdSplit(t *testing.T, l []api.Unit, run [2]int) {
	t.Helper()
	before := slices.Clone(l)
	got := Split(l, run)
	if want := splitOf(l, run); !slices.Equal(got, want) {
		t.Fatalf("P16.1: Split(%.300v, %v): %.300v, not %.300v", l, run, got, want)
	}
	if !slices.Equal(l, before) {
		t.Fatalf("R6: Split(%.300v, %v) changed the signs", before, run)
	}
}

func holdWords(t *testing.T, b []byte, l []api.Unit, least, most int) {
	t.Helper()
	bytesBefore, signsBefore := bytes.Clone(b), slices.Clone(l)
	got := Words(b, l, least, most)
	if want := wordsOf(t, b, l, least, most); !slices.Equal(got, want) {
		t.Fatalf("P16.2: Words(%.100q, %.300v, %d, %d): %.300v, not %.300v", b, l, least, most, got, want)
	}
	if !bytes.Equal(b, bytesBefore) || !slices.Equal(l, signsBefore) {
		t.Fatalf("R6: Words(%.100q, %.300v, %d, %d) changed what it was given", bytesBefore, signsBefore, least, most)
	}
}

// hold holds all three calls on a text's signs.
func hold(t *testing.T, text string) {
	t.Helper()
	b := []byte(text)
	l := utf.Units(b)
	holdRuns(t, l)
	for _, run := range runsOf(l) {
		holdSplit(t, l, run)
	}
	holdWords(t, b, l, 1, len(l))
	holdWords(t, b, l, 2, 3)
}

// eachText does something with each text of up to n pieces.
func eachText(pieces []string, n int, do func(string)) {
	do("")
	row := []string{""}
	for range n {
		var next []string
		for _, text := range row {
			for _, p := range pieces {
				do(text + p)
				next = append(next, text+p)
			}
		}
		row = next
	}
}

func TestExample(t *testing.T) {
	b := []byte("parseHTMLFile don't")
	l := utf.Units(b)
	if got, want := Runs(l), [][2]int{{0, 13}, {14, 19}}; !slices.Equal(got, want) {
		t.Errorf("P16.1: Runs: %v, not %v", got, want)
	}
	if got, want := Split(l, [2]int{0, 13}), [][2]int{{0, 5}, {5, 9}, {9, 13}}; !slices.Equal(got, want) {
		t.Errorf("P16.1: Split: %v, not %v", got, want)
	}
	if got, want := Split(l, [2]int{14, 19}), [][2]int{{14, 19}}; !slices.Equal(got, want) {
		t.Errorf("P16.1: Split: %v, not %v", got, want)
	}
	want := []api.Word{
		{Text: "parse", Span: api.Span{At: 0, Len: 5}, Literal: true},
		{Text: "HTML", Span: api.Span{At: 5, Len: 4}, Literal: true},
		{Text: "File", Span: api.Span{At: 9, Len: 4}, Literal: true},
		{Text: "don't", Span: api.Span{At: 14, Len: 5}, Literal: true},
	}
	if got := Words(b, l, 1, 64); !slices.Equal(got, want) {
		t.Errorf("P16.2: Words: %v, not %v", got, want)
	}
	hold(t, string(b))
}

func TestRuns(t *testing.T) {
	for _, c := range []struct {
		text string
		want string // the runs, blanks between them
	}{
		{"", ""},
		{" ", ""},
		{"'", ""},
		{"''", ""},
		{"a", "a"},
		{"a b", "a b"},
		{" a  b ", "a b"},
		{"a1b_c", "a b c"},
		{"a-b", "a b"},
		{"a\nb\tc\rd", "a b c d"},
		{"don't", "don't"},
		{"a'b'c'd", "a'b'c'd"},
		{"'a", "a"},
		{"a'", "a"},
		{"'a'", "a"},
		{"a' b", "a b"},
		{"a 'b", "a b"},
		{"a''b", "a b"},
		{"a'''b", "a b"},
		{"a'1'b", "a b"},
		{"a'b''c'd", "a'b c'd"},
		{"'a'b'", "a'b"},
		{"1'a'1", "a"},
		{"\u00e4'\u00df", "\u00e4'\u00df"},
		{"a\u2019b", "a b"},
		{"a`b", "a b"},
		{"a\u00b4b", "a b"},
		{"\u00c0\u00d6\u00d7\u00d8\u00de", "\u00c0\u00d6 \u00d8\u00de"},
		{"\u00df\u00e0\u00f6\u00f7\u00f8\u00ff", "\u00df\u00e0\u00f6 \u00f8\u00ff"},
		{"\u00bf\u00c0", "\u00c0"},
		{"\u024f\u0250", "\u024f"},
		{"\u036f\u0370", "\u0370"},
		{"\u052f\u0530", "\u052f"},
		{"\u0391\u0430", "\u0391\u0430"},
		{"@AZ[`az{", "AZ az"},
		{"e\u0301a", "e a"},
		{"a\xffb", "a b"},
		{"a'\xffb", "a b"},
		{"a\u00a0b", "a b"},
		{"aB", "aB"},
	} {
		l := utf.Units([]byte(c.text))
		if got := texts(c.text, l, Runs(l)); !slices.Equal(got, fields(c.want)) {
			t.Errorf("P16.1: Runs(%q): %q, not %q", c.text, got, fields(c.want))
		}
		hold(t, c.text)
	}
}

func TestSplit(t *testing.T) {
	for _, c := range []struct {
		text string
		want string // the parts of all of it, bars between them
	}{
		{"a", "a"},
		{"A", "A"},
		{"ab", "ab"},
		{"AB", "AB"},
		{"Ab", "Ab"},
		{"aB", "a|B"},
		{"aBc", "a|Bc"},
		{"aBC", "a|BC"},
		{"aBCd", "a|B|Cd"},
		{"ABc", "A|Bc"},
		{"ABC", "ABC"},
		{"ABCd", "AB|Cd"},
		{"ABCdEFg", "AB|Cd|E|Fg"},
		{"camelCase", "camel|Case"},
		{"CamelCase", "Camel|Case"},
		{"XMLHttpRequest", "XML|Http|Request"},
		{"parseHTML", "parse|HTML"},
		{"HTMLs", "HTM|Ls"},
		{"McDonald's", "Mc|Donald's"},
		{"O'Brien", "O'Brien"},
		{"o'Brien", "o'Brien"},
		{"DON'T", "DON'T"},
		{"DON't", "DON't"},
		{"AB'c", "AB'c"},
		{"A'Bc", "A'Bc"},
		{"don'tStop", "don't|Stop"},
		{"a'bC'd", "a'b|C'd"},
		{"\u00e9\u00c9", "\u00e9|\u00c9"},
		{"\u00c9\u00c9\u00e9", "\u00c9|\u00c9\u00e9"},
		{"a\u00c0", "a|\u00c0"},
		{"a\u00de", "a|\u00de"},
		{"\u00feA", "\u00fe|A"},
		{"A\u00c9\u00fe", "A|\u00c9\u00fe"},
		// Letters that are neither great nor small.
		{"\u00dfA", "\u00dfA"},
		{"AA\u00df", "AA\u00df"},
		{"a\u00dfA", "a\u00dfA"},
		{"\u00dfaA", "\u00dfa|A"},
		{"a\u0100", "a\u0100"},
		{"\u0101A", "\u0101A"},
		{"\u00ffA", "\u00ffA"},
		{"AA\u00ff", "AA\u00ff"},
		{"\u03b1\u0391", "\u03b1\u0391"},
		{"\u0430\u0410", "\u0430\u0410"},
		// What is no run of Runs is cut likewise.
		{"a B", "a B"},
		{"aB cD", "a|B c|D"},
		{" AAa ", " A|Aa "},
		{"\xffA", "\xffA"},
		{"a\u00d7A", "a\u00d7A"},
		{"a\u00d7", "a\u00d7"},
		{"\u00f7A", "\u00f7A"},
		{"AA\u00f7", "AA\u00f7"},
	} {
		l := utf.Units([]byte(c.text))
		if got, want := texts(c.text, l, Split(l, [2]int{0, len(l)})), strings.Split(c.want, "|"); !slices.Equal(got, want) {
			t.Errorf("P16.1: Split(%q): %q, not %q", c.text, got, want)
		}
		holdSplit(t, l, [2]int{0, len(l)})
		hold(t, c.text)
	}
}

// numbers are those from below 0 to beyond n, and those at the ends of int.
func numbers(n int) []int {
	l := []int{math.MinInt, math.MinInt + 1, math.MinInt32, math.MaxInt32, math.MaxInt - 1, math.MaxInt}
	for i := -3; i <= n+3; i++ {
		l = append(l, i)
	}
	return l
}

func TestSplitPlaces(t *testing.T) {
	for _, text := range []string{"", "a", "aB", "AAa", "aBCd", "fooBARBaz's", " aB c'D", "a\xffBAA\u00e9"} {
		l := utf.Units([]byte(text))
		for _, from := range numbers(len(l)) {
			for _, to := range numbers(len(l)) {
				holdSplit(t, l, [2]int{from, to})
			}
		}
	}
}

// What stands ahead of a run, and behind it, isn't looked at.
func TestSplitAlone(t *testing.T) {
	for _, c := range []struct {
		text string
		run  [2]int
		want [][2]int
	}{
		{"aB", [2]int{1, 2}, [][2]int{{1, 2}}},
		{"AAa", [2]int{1, 3}, [][2]int{{1, 3}}},
		{"AAa", [2]int{0, 2}, [][2]int{{0, 2}}},
		{"AAa", [2]int{0, 3}, [][2]int{{0, 1}, {1, 3}}},
		{"aBc", [2]int{0, 1}, [][2]int{{0, 1}}},
		{"aBc", [2]int{0, 2}, [][2]int{{0, 1}, {1, 2}}},
		{"aBc", [2]int{-5, 2}, [][2]int{{0, 1}, {1, 2}}},
		{"aBc", [2]int{0, 9}, [][2]int{{0, 1}, {1, 3}}},
		{"aBc", [2]int{math.MinInt, math.MaxInt}, [][2]int{{0, 1}, {1, 3}}},
		{"aBc", [2]int{2, 2}, nil},
		{"aBc", [2]int{2, 1}, nil},
		{"aBc", [2]int{3, 9}, nil},
		{"aBc", [2]int{-2, -1}, nil},
		{"aBc", [2]int{-2, 0}, nil},
		{"aBc", [2]int{math.MaxInt, math.MaxInt}, nil},
		{"aBc", [2]int{math.MaxInt, math.MinInt}, nil},
		{"", [2]int{0, 0}, nil},
		{"", [2]int{0, 1}, nil},
		{"", [2]int{-1, 1}, nil},
	} {
		l := utf.Units([]byte(c.text))
		if got := Split(l, c.run); !slices.Equal(got, c.want) {
			t.Errorf("P16.1: Split(%q, %v): %v, not %v", c.text, c.run, got, c.want)
		}
	}
}

func TestLengths(t *testing.T) {
	b := []byte("a bb cccDD eeeeF don't \u00e4\u00f6 ggggggg")
	l := utf.Units(b)
	for _, c := range []struct {
		least, most int
		want        string
	}{
		{1, 64, "a bb ccc DD eeee F don't \u00e4\u00f6 ggggggg"},
		{0, 64, "a bb ccc DD eeee F don't \u00e4\u00f6 ggggggg"},
		{math.MinInt, math.MaxInt, "a bb ccc DD eeee F don't \u00e4\u00f6 ggggggg"},
		{1, 1, "a F"},
		{2, 2, "bb DD \u00e4\u00f6"},
		{3, 5, "ccc eeee don't"},
		{5, 5, "don't"},
		{6, 64, "ggggggg"},
		{7, 7, "ggggggg"},
		{8, 64, ""},
		{1, 0, ""},
		{3, 2, ""},
		{math.MaxInt, math.MinInt, ""},
		{math.MaxInt, math.MaxInt, ""},
		{math.MinInt, math.MinInt, ""},
		{-1, -1, ""},
	} {
		var got []string
		for _, w := range Words(b, l, c.least, c.most) {
			got = append(got, w.Text)
		}
		if !slices.Equal(got, fields(c.want)) {
			t.Errorf("P16.2: Words(%d, %d): %q, not %q", c.least, c.most, got, c.want)
		}
	}
	for _, least := range numbers(8) {
		for _, most := range numbers(8) {
			holdWords(t, b, l, least, most)
		}
	}
}

// TestParts reads parts of files of each format whose signs aren't always what the bytes are.
func TestParts(t *testing.T) {
	word := func(text string, at, n int, literal bool) api.Word {
		return api.Word{Text: text, Span: api.Span{At: at, Len: n}, Literal: literal}
	}
	for _, c := range []struct {
		f     api.Format
		label api.Label
		text  string
		want  []api.Word
	}{
		{api.Html, api.Prose, "a&amp;b", []api.Word{word("a", 0, 1, true), word("b", 6, 1, true)}},
		{api.Html, api.Prose, "don&apos;t do", []api.Word{word("don't", 0, 10, false), word("do", 11, 2, true)}},
		{api.Html, api.Prose, "&#97;bc d&#x45;&#70;g", []api.Word{word("abc", 0, 7, false), word("d", 8, 1, true), word("E", 9, 6, false), word("Fg", 15, 6, false)}},
		{api.Html, api.Prose, "a&apos;", []api.Word{word("a", 0, 1, true)}},
		{api.Html, api.Prose, "a&nbsp;b", []api.Word{word("a", 0, 1, true), word("b", 7, 1, true)}},
		{api.Html, api.Prose, "&bogus;", []api.Word{word("bogus", 1, 5, true)}},
		{api.Mark, api.Prose, `don\'t a\*b`, []api.Word{word("don't", 0, 6, false), word("a", 7, 1, true), word("b", 10, 1, true)}},
		{api.Plain, api.Prose, "a&amp;b", []api.Word{word("a", 0, 1, true), word("amp", 2, 3, true), word("b", 6, 1, true)}},
		{api.GoLike, api.Quoted, `a\nb\u00e4\tx`, []api.Word{word("a", 0, 1, true), word("b\u00e4", 3, 7, false), word("x", 12, 1, true)}},
		{api.Python, api.Quoted, `don\'t`, []api.Word{word("don't", 0, 6, false)}},
		{api.CLike, api.Quoted, `\x41\x62C`, []api.Word{word("Ab", 0, 8, false), word("C", 8, 1, true)}},
		{api.Shell, api.Quoted, `a\$b\nc`, []api.Word{word("a", 0, 1, true), word("b", 3, 1, true), word("nc", 5, 2, true)}},
		{api.Sql, api.Quoted, "don''t a'b", []api.Word{word("don't", 0, 6, false), word("a'b", 7, 3, true)}},
		{api.Sql, api.Prose, "don''t", []api.Word{word("don", 0, 3, true), word("t", 5, 1, true)}},
		{api.Plain, api.Prose, "na\u00efve\xffx", []api.Word{word("na\u00efve", 0, 6, true), word("x", 7, 1, true)}},
	} {
		b := []byte("x" + c.text + "y")
		l, e := decode.Units(c.f, b, api.Seg{Label: c.label, Span: api.Span{At: 1, Len: len(c.text)}})
		if e != api.OK {
			t.Fatalf("Units(%q): %d", c.text, e)
		}
		for i := range c.want {
			c.want[i].Span.At++
		}
		if got := Words(b, l, 1, 64); !slices.Equal(got, c.want) {
			t.Errorf("P16.2: Words(%d, %q): %v, not %v", c.f, c.text, got, c.want)
		}
		holdRuns(t, l)
		holdWords(t, b, l, 1, 64)
	}
}

// TestOtherBytes cuts signs that the bytes don't have.
func TestOtherBytes(t *testing.T) {
	text := "oneTwo don't"
	l := utf.Units([]byte(text))
	for _, b := range []string{"", "o", "one", "oneTwo", "oneTwO don't", text, text + " x", "ONETWO DON'T", "    " + text} {
		holdWords(t, []byte(b), l, 1, 64)
	}
	if got := Words(nil, l, 1, 64); len(got) != 3 || got[0].Literal || got[2].Span != (api.Span{At: 7, Len: 5}) {
		t.Errorf("P16.2: Words of no bytes: %v", got)
	}
	if Runs(nil) != nil || Split(nil, [2]int{0, 1}) != nil || Words([]byte(text), nil, 0, 64) != nil {
		t.Error("P16.1, P16.2: there are words of no signs")
	}
}

func TestEachRune(t *testing.T) {
	odd := []rune{math.MinInt32, math.MinInt32 + 1, math.MinInt32 + 0x61, -2, math.MaxInt32, math.MaxInt32 - 1, 0x110000 + 'a', 1<<30 + 'a', 1<<16 + 'a'}
	for r := rune(-300); r < 0x800; r++ {
		odd = append(odd, r)
	}
	for _, r := range odd {
		holdRune(t, r)
	}
	for r := rune(0x800); r <= 0x110400; r++ {
		if l := runes('a', r, 'b'); !slices.Equal(Runs(l), [][2]int{{0, 1}, {2, 3}}) {
			t.Fatalf("P16.1: %x is taken as a letter", r)
		}
	}
}

// holdRune holds a rune in every role.
func holdRune(t *testing.T, r rune) {
	t.Helper()
	for _, l := range [][]api.Unit{
		runes(r), runes(r, r), runes(r, r, r),
		runes('a', r), runes(r, 'a'), runes('a', r, 'a'), runes(r, 'a', r),
		runes('A', r), runes(r, 'A'), runes('A', r, 'A'), runes(r, 'A', r),
		runes('\'', r), runes(r, '\''), runes('\'', r, '\''), runes(r, '\'', r),
		runes('a', '\'', r), runes(r, '\'', 'a'),
		runes('A', 'A', r), runes('A', r, 'a'), runes(r, 'A', 'a'), runes('a', r, 'A'), runes('a', 'A', r),
	} {
		holdRuns(t, l)
		holdSplit(t, l, [2]int{0, len(l)})
		if utf8.ValidRune(r) {
			holdWords(t, []byte("aAa"), l, 1, 3)
		}
	}
}

func TestSmallTexts(t *testing.T) {
	eachText([]string{"a", "B", "'", " ", "\u00df", "\u00c9"}, 6, func(text string) { hold(t, text) })
	eachText([]string{"a", "B", "'"}, 9, func(text string) { hold(t, text) })
	eachText([]string{"x", "Y", "'", "1", "\xff", "\u00e9", "\u2019", "\u0391", "\n"}, 4, func(text string) { hold(t, text) })
}

func TestRandomTexts(t *testing.T) {
	random := rand.New(rand.NewSource(16))
	pieces := []string{"a", "b", "A", "B", "'", "''", " ", "1", "_", "\u00e9", "\u00c9", "\u00df", "\u0101", "\u0391", "\xff", "\xc3", "don't", "HTML", "camelCase", "\u2019", "\u00d7", "\u00f7"}
	for range 20000 {
		var text strings.Builder
		for range random.Intn(30) {
			text.WriteString(pieces[random.Intn(len(pieces))])
		}
		hold(t, text.String())
	}
	for range 5000 {
		b := make([]byte, random.Intn(60))
		random.Read(b)
		hold(t, string(b))
	}
}

// TestAnySpans holds words whose signs stand anywhere, also where no file has them.
func TestAnySpans(t *testing.T) {
	random := rand.New(rand.NewSource(61))
	edges := []int{math.MinInt, math.MinInt + 1, -1 << 32, -2, -1, 0, 1, 2, 3, 4, 1 << 32, math.MaxInt - 1, math.MaxInt}
	signs := []rune{'a', 'b', 'A', 'B', '\'', ' ', 0xe9, 0xc9, -1}
	b := []byte("abAB'\u00e9")
	for range 200000 {
		var l []api.Unit
		for range random.Intn(5) {
			l = append(l, unit(signs[random.Intn(len(signs))], edges[random.Intn(len(edges))], edges[random.Intn(len(edges))]))
		}
		holdRuns(t, l)
		got, i := Words(b, l, 1, 5), 0
		for _, run := range runsOf(l) {
			for _, part := range splitOf(l, run) {
				w, ok := wordOf(b, l[part[0]:part[1]])
				if i >= len(got) || ok && got[i] != w {
					t.Fatalf("P16.2: Words(%q, %v, 1, 5): %v, not %v at %d", b, l, got, w, i)
				}
				i++
			}
		}
		if i != len(got) {
			t.Fatalf("P16.2: Words(%q, %v, 1, 5): %v, not %d words", b, l, got, i)
		}
	}
}

func TestSpans(t *testing.T) {
	for _, c := range []struct {
		l    []api.Unit
		want api.Word
	}{
		{[]api.Unit{unit('a', 0, 1), unit('b', 1, 1)}, api.Word{Text: "ab", Span: api.Span{At: 0, Len: 2}, Literal: true}},
		{[]api.Unit{unit('a', 0, 1), unit('b', 2, 0)}, api.Word{Text: "ab", Span: api.Span{At: 0, Len: 2}, Literal: true}},
		{[]api.Unit{unit('a', 0, 1), unit('b', 3, -1)}, api.Word{Text: "ab", Span: api.Span{At: 0, Len: 2}, Literal: true}},
		{[]api.Unit{unit('a', 0, 9), unit('b', 1, 1)}, api.Word{Text: "ab", Span: api.Span{At: 0, Len: 2}, Literal: true}},
		{[]api.Unit{unit('a', 0, 1), unit('b', 4, 1)}, api.Word{Text: "ab", Span: api.Span{At: 0, Len: 5}}},
		{[]api.Unit{unit('a', 4, 1), unit('b', 0, 1)}, api.Word{Text: "ab", Span: api.Span{At: 4, Len: -3}}},
		{[]api.Unit{unit('a', -3, 1), unit('b', -2, 1)}, api.Word{Text: "ab", Span: api.Span{At: -3, Len: 2}}},
		{[]api.Unit{unit('a', 70000, 1), unit('b', 70001, 1)}, api.Word{Text: "ab", Span: api.Span{At: 70000, Len: 2}}},
		{[]api.Unit{unit('a', math.MaxInt, 1)}, api.Word{Text: "a", Span: api.Span{At: math.MaxInt, Len: 1}}},
		{[]api.Unit{unit('a', math.MaxInt, 1), unit('b', math.MaxInt, math.MaxInt)}, api.Word{Text: "ab", Span: api.Span{At: math.MaxInt, Len: math.MaxInt}}},
		{[]api.Unit{unit('a', math.MinInt, 1), unit('b', math.MinInt, 7)}, api.Word{Text: "ab", Span: api.Span{At: math.MinInt, Len: 7}}},
	} {
		if got := Words([]byte("ab c"), c.l, 1, 9); !slices.Equal(got, []api.Word{c.want}) {
			t.Errorf("P16.2: Words(%v): %v, not %v", c.l, got, c.want)
		}
	}
}

func TestWholeFiles(t *testing.T) {
	for _, piece := range []string{"a", "A", "'", "a'", "aB", "AAa", "a ", "don't ", "\u00e9\u00c9", " ", "\xff", "camelCase_HTMLFile "} {
		text := strings.Repeat(piece, api.MaxFile/len(piece)+1)[:api.MaxFile]
		l := utf.Units([]byte(text))
		holdRuns(t, l)
		holdSplit(t, l, [2]int{0, len(l)})
		holdWords(t, []byte(text), l, 1, api.MaxFile)
	}
	// Nor are files longer than any that redpen takes refused here.
	text := strings.Repeat("a", 2*api.MaxFile) + " bC"
	holdWords(t, []byte(text), utf.Units([]byte(text)), 1, math.MaxInt)
}

// The spare room of what is handed in is neither read nor written.
func TestSpareRoom(t *testing.T) {
	all := runes('a', '\'', 'b', 'A', 'A', 'a')
	b := []byte("a'bAAa")
	for n := range all {
		l := all[:n]
		before, bytesBefore := slices.Clone(all), bytes.Clone(b)
		if got, want := Runs(l), runsOf(l); !slices.Equal(got, want) {
			t.Errorf("R8: Runs with spare room: %v, not %v", got, want)
		}
		if got, want := Split(l, [2]int{0, 6}), splitOf(l, [2]int{0, 6}); !slices.Equal(got, want) {
			t.Errorf("R8: Split with spare room: %v, not %v", got, want)
		}
		if got, want := Words(b[:n], l, 1, 6), wordsOf(t, bytes.Clone(b[:n]), slices.Clone(l), 1, 6); !slices.Equal(got, want) {
			t.Errorf("R8: Words with spare room: %v, not %v", got, want)
		}
		if !slices.Equal(all, before) || !bytes.Equal(b, bytesBefore) {
			t.Error("R6: spare room was changed")
		}
	}
}

// Answers share no memory with what was handed in, nor with one another.
func TestNewMemory(t *testing.T) {
	b := []byte("oneTwo don't")
	l := utf.Units(b)
	runs, parts, words := Runs(l), Split(l, [2]int{0, 6}), Words(b, l, 1, 9)
	wantRuns, wantParts, wantWords := slices.Clone(runs), slices.Clone(parts), slices.Clone(words)
	again := Runs(l)
	clear(Runs(l))
	clear(Split(l, [2]int{0, 6}))
	clear(Words(b, l, 1, 9))
	clear(b)
	clear(l)
	if !slices.Equal(runs, wantRuns) || !slices.Equal(parts, wantParts) || !slices.Equal(words, wantWords) || words[0].Text != "one" {
		t.Error("R6: an answer changed with what was handed in")
	}
	if !slices.Equal(again, wantRuns) {
		t.Error("R8: the same call answered something else")
	}
}

func FuzzTexts(f *testing.F) {
	f.Add("parseHTMLFile don't")
	f.Add("a''b \xff\u00e9\u00c9")
	f.Fuzz(func(t *testing.T, text string) {
		if len(text) <= api.MaxFile {
			hold(t, text)
		}
	})
}
