package fold

import (
	"math"
	"strings"
	"testing"
	"unicode/utf8"
)

// greats and smalls are the letters of two cases, written out: each great one has its small one's place.
const (
	greats = "ABCDEFGHIJKLMNOPQRSTUVWXYZÀÁÂÃÄÅÆÇÈÉÊËÌÍÎÏÐÑÒÓÔÕÖØÙÚÛÜÝÞ"
	smalls = "abcdefghijklmnopqrstuvwxyzàáâãäåæçèéêëìíîïðñòóôõöøùúûüýþ"
)

// pairs are the letters of two cases, the small ones by their great ones.
func pairs() map[rune]rune {
	m := map[rune]rune{}
	small := []rune(smalls)
	for i, r := range []rune(greats) {
		m[r] = small[i]
	}
	return m
}

// odd are runes that are no letters, or no runes at all, with those at which taking off or putting on 20 wraps round.
var odd = []rune{
	math.MinInt32, math.MinInt32 + 1, math.MinInt32 + 0x20, math.MinInt32 + 0x41, math.MinInt32 + 0x61, -0x110000, -0xff, -0xc0, -0x61, -0x41, -0x20, -1,
	0x110000, 0x110041, 0x7fffffe0, math.MaxInt32 - 0x20, math.MaxInt32 - 1, math.MaxInt32, 0xd800, 0xdfff, 0xfffd, 0x10ffff, 0x1f600,
}

func TestPairsAreThoseOfTheChapter(t *testing.T) {
	m := pairs()
	if len(m) != 26+30 {
		t.Fatalf("the tests' own table has %d pairs", len(m))
	}
	for g, s := range m {
		if s != g+0x20 {
			t.Errorf("the tests' own table: %x and %x", g, s)
		}
	}
}

func TestEveryRune(t *testing.T) {
	down := pairs()
	up := map[rune]rune{}
	for g, s := range down {
		up[s] = g
	}
	look := func(r rune) {
		s, great := down[r]
		g, small := up[r]
		if Great(r) != great {
			t.Errorf("P4.1: Great(%x): %v", r, Great(r))
		}
		if Small(r) != small {
			t.Errorf("P4.1: Small(%x): %v", r, Small(r))
		}
		letter := great || small || r == 0xdf || r >= 0xff && r <= 0x24f || r >= 0x370 && r <= 0x52f
		if Letter(r) != letter {
			t.Errorf("P4.1: Letter(%x): %v", r, Letter(r))
		}
		if !great {
			s = r
		}
		if Down(r) != s {
			t.Errorf("P4.1: Down(%x): %x", r, Down(r))
		}
		if !small {
			g = r
		}
		if Up(r) != g {
			t.Errorf("P4.1: Up(%x): %x", r, Up(r))
		}
	}
	for r := rune(-0x1000); r <= 0x111000; r++ {
		look(r)
	}
	for _, r := range odd {
		look(r)
	}
}

// kinds is what Letter, Great and Small answer, one sign each.
func kinds(r rune) string {
	s := ""
	for i, is := range []bool{Letter(r), Great(r), Small(r)} {
		if is {
			s += "LGS"[i : i+1]
		}
	}
	return s
}

func TestEdgesOfRanges(t *testing.T) {
	for _, c := range []struct {
		r    rune
		want string
	}{
		{0x40, ""}, {0x41, "LG"}, {0x5a, "LG"}, {0x5b, ""},
		{0x60, ""}, {0x61, "LS"}, {0x7a, "LS"}, {0x7b, ""},
		{0xbf, ""}, {0xc0, "LG"}, {0xd6, "LG"}, {0xd7, ""}, {0xd8, "LG"}, {0xde, "LG"}, {0xdf, "L"},
		{0xe0, "LS"}, {0xf6, "LS"}, {0xf7, ""}, {0xf8, "LS"}, {0xfe, "LS"}, {0xff, "L"},
		{0x100, "L"}, {0x24e, "L"}, {0x24f, "L"}, {0x250, ""},
		{0x36f, ""}, {0x370, "L"}, {0x391, "L"}, {0x3b1, "L"}, {0x410, "L"}, {0x430, "L"}, {0x52f, "L"}, {0x530, ""},
		{'1', ""}, {' ', ""}, {0, ""}, {-1, ""}, {0x110000, ""}, {math.MinInt32, ""}, {math.MaxInt32, ""},
	} {
		if kinds(c.r) != c.want {
			t.Errorf("P4.1: %x is %q, not %q", c.r, kinds(c.r), c.want)
		}
	}
}

func TestFold(t *testing.T) {
	for _, c := range [][2]string{
		{"", ""},
		{"Hello", "hello"},
		{"ÉX", "éx"},
		{"ZÞ Straße", "zþ straße"},
		{"×÷ŸĀΑД", "×÷ŸĀΑД"},
		{"\x00A\nB1_-", "\x00a\nb1_-"},
		{"\xff", ""},
		{"\xc3", ""},
		{"\xffA\x80B\xc3", "ab"},
		{"A\xed\xa0\x80B", "ab"},
		{"\xc1\x81A", "a"},
		{"A\ufffdB", "a\ufffdb"},
		{"\U0010ffffA", "\U0010ffffa"},
	} {
		if got := Fold(c[0]); got != c[1] {
			t.Errorf("P4.1: Fold(%q): %q, not %q", c[0], got, c[1])
		}
	}
	if Fold(greats) != smalls || Fold(smalls) != smalls {
		t.Error("P4.1: Fold of all letters of two cases")
	}
}

func TestCasesAreNumbered(t *testing.T) {
	if Mixed != 0 || Lower != 1 || First != 2 || Upper != 3 {
		t.Error("P4.2: the cases' numbers")
	}
}

func TestOf(t *testing.T) {
	for _, c := range []struct {
		s    string
		want Case
	}{
		{"", Lower}, {"hello", Lower}, {"élan", Lower}, {"123", Lower}, {"ß", Lower}, {"×", Lower}, {"ŸĀ", Lower}, {"ДА", Lower}, {"\xff", Lower}, {"\xffa", Lower}, {"a\xc3", Lower},
		{"Hello", First}, {"Élan", First}, {"A", First}, {"À", First}, {"Þ", First}, {"A1", First}, {"Aß", First}, {"AĀ", First}, {"\xffHello", First}, {"\xc3\xc3A", First}, {"A\xff", First},
		{"HELLO", Upper}, {"AB", Upper}, {"ÀÞ", Upper}, {"É2É", Upper}, {"1AB", Upper}, {"Aß1B", Upper}, {"AĀÿB", Upper}, {"A×B÷", Upper}, {"\xffA\xffB", Upper},
		{"heLlo", Mixed}, {"HEllo", Mixed}, {"HeLlo", Mixed}, {"HELLo", Mixed}, {"aB", Mixed}, {"1A", Mixed}, {"ßA", Mixed}, {"ĀB", Mixed}, {" Ab", Mixed}, {"'A", Mixed}, {"Éé É", Mixed}, {"AbC", Mixed}, {"ABþ", Mixed}, {"a\xffB", Mixed}, {"\ufffdA", Mixed},
	} {
		if got := Of(c.s); got != c.want {
			t.Errorf("P4.2: Of(%q): %d, not %d", c.s, got, c.want)
		}
	}
}

func TestAs(t *testing.T) {
	for _, c := range []struct {
		s, mixed, lower, first, upper string
	}{
		{"", "", "", "", ""},
		{"wORD", "wORD", "word", "Word", "WORD"},
		{"xY", "xY", "xy", "Xy", "XY"},
		{"éÀa", "éÀa", "éàa", "Éàa", "ÉÀA"},
		{"a", "a", "a", "A", "A"},
		{"A", "A", "a", "A", "A"},
		{"1aB", "1aB", "1ab", "1ab", "1AB"},
		{"ßaB", "ßaB", "ßab", "ßab", "ßAB"},
		{"ÿaŸ×÷", "ÿaŸ×÷", "ÿaŸ×÷", "ÿaŸ×÷", "ÿAŸ×÷"},
		{"αΑдД", "αΑдД", "αΑдД", "αΑдД", "αΑдД"},
		{" bC", " bC", " bc", " bc", " BC"},
		{"\xff", "", "", "", ""},
		{"\xffaB\x80c\xc3", "aBc", "abc", "Abc", "ABC"},
		{"\xed\xa0\x80\xc0\x80bC", "bC", "bc", "Bc", "BC"},
		{"\ufffdaB", "\ufffdaB", "\ufffdab", "\ufffdab", "\ufffdAB"},
		{"\U0010ffff\x00aB", "\U0010ffff\x00aB", "\U0010ffff\x00ab", "\U0010ffff\x00ab", "\U0010ffff\x00AB"},
	} {
		for i, want := range []string{c.mixed, c.lower, c.first, c.upper} {
			if got := As(Case(i), c.s); got != want {
				t.Errorf("P4.2: As(%d, %q): %q, not %q", i, c.s, got, want)
			}
		}
		for i := int(Upper) + 1; i <= math.MaxUint8; i++ {
			if got := As(Case(i), c.s); got != c.mixed {
				t.Errorf("P4.2: As(%d, %q), a case that is none: %q, not %q", i, c.s, got, c.mixed)
			}
		}
	}
	if As(Upper, smalls) != greats || As(Upper, greats) != greats || As(Lower, greats) != smalls {
		t.Error("P4.2: As of all letters of two cases")
	}
}

// reading is a text's signs by the library, its great and its small letters, and whether its first sign is great.
func reading(s string) (l []rune, great, small int, first bool) {
	for i, w := 0, 0; i < len(s); i += w {
		var r rune
		r, w = utf8.DecodeRuneInString(s[i:])
		if r == utf8.RuneError && w == 1 {
			continue
		}
		if strings.ContainsRune(greats, r) {
			great++
			first = first || len(l) == 0
		}
		if strings.ContainsRune(smalls, r) {
			small++
		}
		l = append(l, r)
	}
	return l, great, small, first
}

// want is Of by the chapter's words.
func want(s string) Case {
	_, great, small, first := reading(s)
	if great == 0 {
		return Lower
	}
	if great >= 2 && small == 0 {
		return Upper
	}
	if great == 1 && first {
		return First
	}
	return Mixed
}

// wanted is As by the chapter's words, sign by sign.
func wanted(c Case, s string) string {
	m := pairs()
	l, _, _, _ := reading(s)
	out := ""
	for i, r := range l {
		up := c == Upper || c == First && i == 0
		down := c == Lower || c == First && i > 0
		for g, s := range m {
			if up && r == s {
				r = g
				break
			}
			if down && r == g {
				r = s
				break
			}
		}
		out += string(r)
	}
	return out
}

// against holds all calls on a text against the chapter's words.
func against(t *testing.T, s string) {
	t.Helper()
	if got := Of(s); got != want(s) {
		t.Errorf("P4.2: Of(%q): %d, not %d", s, got, want(s))
	}
	if got := Fold(s); got != wanted(Lower, s) {
		t.Errorf("P4.1: Fold(%q): %q, not %q", s, got, wanted(Lower, s))
	}
	for _, c := range []Case{Mixed, Lower, First, Upper, 4, 255} {
		if got := As(c, s); got != wanted(c, s) {
			t.Errorf("P4.2: As(%d, %q): %q, not %q", c, s, got, wanted(c, s))
		}
	}
}

func TestAllShortTexts(t *testing.T) {
	pieces := []string{"A", "Þ", "b", "é", "ß", "Ā", "1", "×", "\xff", "\xc3"}
	var grow func(s string, more int)
	grow = func(s string, more int) {
		against(t, s)
		if more == 0 {
			return
		}
		for _, p := range pieces {
			grow(s+p, more-1)
		}
	}
	grow("", 4)
}

func TestLongTexts(t *testing.T) {
	long := strings.Repeat("aÉ\xff", 1<<16)
	if got, want := Fold(long), strings.Repeat("aé", 1<<16); got != want {
		t.Error("P4.1: Fold of a long text")
	}
	if got, want := As(First, long), "Aé"+strings.Repeat("aé", 1<<16-1); got != want {
		t.Error("P4.2: As of a long text")
	}
	if Of(long) != Mixed || Of(long[1:3]+strings.Repeat("x", 1<<16)) != First {
		t.Error("P4.2: Of of a long text")
	}
}

func TestSameAnswerTwice(t *testing.T) {
	for _, s := range []string{"", "Hello", "\xffAB", "xÉ"} {
		if Of(s) != Of(s) || Fold(s) != Fold(s) || As(First, s) != As(First, s) {
			t.Errorf("R8: %q", s)
		}
	}
}

func FuzzAgainstTheChapter(f *testing.F) {
	for _, s := range []string{"", "Hello", "\xffAé", "ÀÞ×÷ß", "\xed\xa0\x80B", "1Ab"} {
		f.Add(s)
	}
	f.Fuzz(func(t *testing.T, s string) { against(t, s) })
}
