package pragma

import (
	"bytes"
	"math"
	"math/rand"
	"regexp"
	"slices"
	"strings"
	"testing"

	"redpen/api"
	"redpen/fold"
)

// letters is the class of chapter 4's letters.
const letters = `A-Za-z\x{c0}-\x{d6}\x{d8}-\x{f6}\x{f8}-\x{24f}\x{370}-\x{52f}`

var (
	lineForm   = regexp.MustCompile(`[^\n]*\n|[^\n]+`)
	askForm    = regexp.MustCompile(`spell:([a-z]*)`)
	wordForm   = regexp.MustCompile(`\A[ \t,]*([` + letters + `']+)`)
	listedForm = regexp.MustCompile(`\A[` + letters + `]+(?:'[` + letters + `]+)*\z`)
)

// asks are what each line asks, and what stands behind it, by patterns.
func asks(line string) [][2]string {
	var l [][2]string
	for _, m := range askForm.FindAllStringSubmatchIndex(line, -1) {
		l = append(l, [2]string{line[m[2]:m[3]], line[m[1]:]})
	}
	return l
}

// listed are the listed words with which a text begins.
func listed(text string) []string {
	var l []string
	for {
		m := wordForm.FindStringSubmatch(text)
		if m == nil || len(m[1]) > 64 || !listedForm.MatchString(m[1]) {
			return l
		}
		l = append(l, m[1])
		text = text[len(m[0]):]
	}
}

// downs are the great letters, each ahead of its small one.
var downs = func() *strings.Replacer {
	var l []string
	for r := rune(0); r < 0x100; r++ {
		if r >= 'A' && r <= 'Z' || r >= 0xc0 && r <= 0xde && r != 0xd7 {
			l = append(l, string(r), string(r+32))
		}
	}
	return strings.NewReplacer(l...)
}()

// folded is a text folded, by another way than layer 4's.
func folded(s string) string { return downs.Replace(strings.ToValidUTF8(s, "")) }

// second is what a second reader tells of a file.
type second struct {
	spans []api.Span
	words map[string]bool
}

// read is Read by patterns: which lines ask what is found first, and which are left alone from that.
func read(text string) second {
	s := second{words: map[string]bool{}}
	places := lineForm.FindAllStringIndex(text, -1)
	var says [][]string
	for _, p := range places {
		var line []string
		for _, a := range asks(text[p[0]:p[1]]) {
			line = append(line, a[0])
			if a[0] == "words" {
				for _, w := range listed(a[1]) {
					s.words[folded(w)] = true
				}
			}
		}
		says = append(says, line)
	}
	held := "on"
	for i, p := range places {
		alone := held == "off" || slices.Contains(says[i], "off") || slices.Contains(says[i], "line")
		if i > 0 && slices.Contains(says[i-1], "next") {
			alone = true
		}
		if alone {
			s.spans = append(s.spans, api.Span{At: p[0], Len: p[1] - p[0]})
		}
		for _, a := range says[i] {
			if a == "on" || a == "off" {
				held = a
			}
		}
	}
	return s
}

// candidates are words that a file may know: all that stand on it, also with what stands about them, and pieces of them.
func candidates(text string) []string {
	l := []string{"", "a", "x", "spell", "words", "off", "'", " "}
	for _, f := range strings.FieldsFunc(text, func(r rune) bool { return strings.ContainsRune(" \t\n\r,:", r) }) {
		l = append(l, f, strings.Trim(f, "'"), f+"s", f[1:])
	}
	return l
}

// places are a text's places and others.
func places(n int) []int {
	l := []int{math.MinInt, math.MinInt + 1, -70000, math.MaxInt32, 70000, math.MaxInt - 1, math.MaxInt}
	for i := -2; i <= n+2; i++ {
		l = append(l, i)
	}
	return l
}

// hold holds a file's rules against the second reader's.
func hold(t *testing.T, text string) {
	t.Helper()
	b := []byte(text)
	r, want := Read(b), read(text)
	if string(b) != text {
		t.Fatalf("R6: Read(%.300q) changed the bytes", text)
	}
	if got := r.Spans(); !slices.Equal(got, want.spans) {
		t.Fatalf("P17.1: Read(%.300q).Spans(): %.300v, not %.300v", text, got, want.spans)
	}
	alone := map[int]bool{}
	for _, s := range want.spans {
		for i := range s.Len {
			alone[s.At+i] = true
		}
	}
	for _, at := range places(len(text)) {
		if got := r.Off(at); got != alone[at] {
			t.Fatalf("P17.2: Read(%.300q).Off(%d): %v", text, at, got)
		}
	}
	if len(r.known) != len(want.words) {
		t.Fatalf("P17.1: Read(%.300q) knows %.300v, not %.300v", text, r.known, want.words)
	}
	for w := range want.words {
		if !r.Knows(w) {
			t.Fatalf("P17.1: Read(%.300q) doesn't know %q", text, w)
		}
	}
}

// holdWords asks for all that might be known, too.
func holdWords(t *testing.T, text string) {
	t.Helper()
	hold(t, text)
	r, want := Read([]byte(text)), read(text)
	for _, w := range candidates(text) {
		for _, s := range []string{w, strings.ToUpper(w), strings.ToLower(w)} {
			if got := r.Knows(s); got != want.words[folded(s)] {
				t.Fatalf("P17.2: Read(%.300q).Knows(%q): %v", text, s, got)
			}
		}
	}
}

// eachText does something with each text of up to n pieces.
func eachText(pieces []string, n int, do func(string)) {
	do("")
	row := []string{""}
	for range n {
		var next []string
		for _, text := range row {
			for _, p := range pieces {
				do(text + p)
				next = append(next, text+p)
			}
		}
		row = next
	}
}

func TestExample(t *testing.T) {
	r := Read([]byte("a spell:off\nb\nc spell:on\nd"))
	if want := []api.Span{{At: 0, Len: 12}, {At: 12, Len: 2}, {At: 14, Len: 11}}; !slices.Equal(r.Spans(), want) {
		t.Errorf("P17.1: %v, not %v", r.Spans(), want)
	}
	for at := -1; at < 30; at++ {
		if r.Off(at) != (at >= 0 && at < 25) {
			t.Errorf("P17.2: Off(%d): %v", at, r.Off(at))
		}
	}
	r = Read([]byte("a spell:off\nb\nc spell:on\nd spell:words Foo, don't\n"))
	if len(r.Spans()) != 3 || !r.Off(13) || !r.Knows("FOO") || !r.Knows("Don't") || r.Knows("d") {
		t.Errorf("P17.1, P17.2: README's example: %v", r.Spans())
	}
}

// picture is a bar for each line that is left alone, and a point for each other one.
func picture(text string, r *Rules) string {
	var s strings.Builder
	at := 0
	for line := range strings.SplitAfterSeq(text, "\n") {
		switch {
		case line == "":
		case slices.Contains(r.Spans(), api.Span{At: at, Len: len(line)}):
			s.WriteByte('|')
		default:
			s.WriteByte('.')
		}
		at += len(line)
	}
	return s.String()
}

func TestLines(t *testing.T) {
	for _, c := range []struct{ text, want string }{
		{"", ""},
		{"a", "."},
		{"\n", "."},
		{"a\nb\n", ".."},
		// off and on.
		{"spell:off", "|"},
		{"spell:off\n", "|"},
		{"a\nspell:off\nb", ".||"},
		{"spell:off\n\n\n", "|||"},
		{"spell:on\na", ".."},
		{"spell:off\nspell:on\na", "||."},
		{"spell:off spell:on\na", "|."},
		{"spell:on spell:off\na", "||"},
		{"spell:off spell:on spell:off\na", "||"},
		{"spell:off\nspell:on spell:off\na", "|||"},
		{"spell:off\nspell:off\na\nspell:on\na\nspell:on\na", "||||..."},
		{"a\nb spell:off c\nd\ne spell:on f\ng\nspell:off\n", ".|||.|"},
		// line.
		{"a\nspell:line\nb", ".|."},
		{"spell:line\nspell:line\nb", "||."},
		{"a spell:line spell:on\nb", "|."},
		{"spell:off\na spell:line spell:on\nb", "||."},
		// next.
		{"spell:next\na\nb", ".|."},
		{"spell:next\nspell:next\na\nb", ".||."},
		{"spell:next", "."},
		{"spell:next\n", "."},
		{"spell:next\n\na", ".|."},
		{"spell:next\nspell:on\na", ".|."},
		{"spell:next spell:on\na\nb", ".|."},
		{"spell:next spell:next\na\nb", ".|."},
		{"spell:next spell:line\na\nb", "||."},
		{"spell:off\nspell:next spell:on\na\nb", "|||."},
		{"spell:off spell:next\nspell:on\na", "||."},
		{"spell:off\nspell:next\nspell:on\na", "|||."},
		{"spell:next\nspell:words a\nb", ".|."},
		// What stands about it.
		{"<!-- spell:off -->\na", "||"},
		{"misspell:line\na", "|."},
		{"1spell:line2\na", "|."},
		{"\xffspell:line\xff\na", "|."},
		{"spell:line\r\na\r\n", "|."},
		{"a\rspell:line\rb", "|"},
		{"spell:off-line\na", "||"},
		{"spell:lineUp", "|"},
		{"spell:line\u00e9", "|"},
		{"spell:line'", "|"},
		{"spell:line:", "|"},
		{"spell:line, spell:next\na\nb", "||."},
		// What is nothing.
		{"spell:", "."},
		{"spell", "."},
		{"spell:\noff", ".."},
		{"spell: off\na", ".."},
		{"spell :off\na", ".."},
		{"spell;off\na", ".."},
		{"Spell:off\na", ".."},
		{"SPELL:OFF\na", ".."},
		{"spell:Off\na", ".."},
		{"spell:oFF\na", ".."},
		{"spell:of\na", ".."},
		{"spell:offs\na", ".."},
		{"spell:off\u00e9\na", "||"},
		{"spell:\u00e9off\na", ".."},
		{"spell:\"off\"\na", ".."},
		{"spell:lines\na", ".."},
		{"spell:lin\na", ".."},
		{"spell:nextline\na", ".."},
		{"spell:word\na", ".."},
		{"spell:x spell:line\na", "|."},
		{"spell: spell:line\na", "|."},
		{"spel:off\na", ".."},
		{"sspell:line", "|"},
		{"spellspell:line", "|"},
		{"spell::line", "."},
		{"spe\nll:off\na", "..."},
		{"spell\n:off\na", "..."},
		// The next one is looked for behind the letters.
		{"spell:spell:off\na", ".."},
		{"spell:spell:spell:line\na", "|."},
		{"spell:offspell:line\na", ".."},
		{"spell:off\u00e9spell:on\na", "|."},
		{"spell:off1spell:on\na", "|."},
		{"spell:off:spell:on\na", "|."},
		{"spell:onspell:off\na\nspell:line\nb", "..|."},
		{"spell:Spell:spell:line\na", "|."},
		// Words are no end of what a line asks.
		{"spell:words a spell:line\nb", "|."},
		{"spell:words spell:line\nb", "|."},
		{"spell:words,spell:line\nb", "|."},
		{"spell:words a, b' spell:off\nb", "||"},
		{"spell:wordsspell:line\nb", ".."},
		{"spell:words spell:words spell:line\nb", "|."},
		{"spell:words off line next\nb", ".."},
	} {
		if got := picture(c.text, Read([]byte(c.text))); got != c.want {
			t.Errorf("P17.1: of the lines of %q are left alone %s, not %s", c.text, got, c.want)
		}
		holdWords(t, c.text)
	}
}

func TestKnown(t *testing.T) {
	long := strings.Repeat("a", 64)
	for _, c := range []struct {
		text  string
		known string // with blanks between
		not   string
	}{
		{"", "", "a"},
		{"a", "", "a"},
		{"spell:words", "", "spell words"},
		{"spell:words ", "", "spell words"},
		{"spell:words a", "a", "b"},
		{"spell:words a b", "a b", "c ab"},
		{"spell:words a,b", "a b", "ab"},
		{"spell:words a, b,\tc", "a b c", "d"},
		{"spell:words\ta\t \tb", "a b", ""},
		{"spell:words,,, ,a,,,b", "a b", ""},
		{"spell:words a b\n", "a b", ""},
		{"spell:words a b\r\nc", "a b", "c"},
		{"spell:words a\nb", "a", "b"},
		{"spell:words\na b", "", "a b"},
		{"spell:words \n a b", "", "a b"},
		{"spell:words a\rb", "a", "b"},
		{"spell:words a\vb", "a", "b"},
		{"spell:words a\fb", "a", "b"},
		{"spell:words a\u00a0b", "a", "b"},
		{"spell:words a;b", "a", "b"},
		{"spell:words a.", "a", ""},
		{"spell:words a. b", "a", "b"},
		{"spell:words a-b", "a", "b"},
		{"spell:words a1 b", "a", "b a1"},
		{"spell:words 1 a", "", "a"},
		{"spell:words: a", "", "a"},
		{"spell:words (a)", "", "a"},
		{"spell:words a -->", "a", ""},
		{"spell:words a */ b", "a", "b"},
		{"spell:words a\xffb", "a", "b ab"},
		{"spell:words \xffa", "", "a"},
		{"spell:words a\x00b", "a", "b"},
		// What stands right behind the letters a to z is no blank.
		{"spell:wordsa", "", "a wordsa"},
		{"spell:words1", "", ""},
		{"spell:wordsFoo", "foo", "wordsfoo"},
		{"spell:words\u00e9t\u00e9", "\u00e9t\u00e9", ""},
		{"spell:words'a b", "", "a b"},
		{"spell:Words a", "", "a"},
		{"Spell:words a", "", "a"},
		{"spell: words a", "", "a words"},
		// Apostrophes.
		{"spell:words don't a", "don't a", "don t"},
		{"spell:words a'b'c d", "a'b'c d", ""},
		{"spell:words a 'b c", "a", "b 'b c"},
		{"spell:words a b' c", "a", "b b' c"},
		{"spell:words a 'b' c", "a", "b c"},
		{"spell:words a b''c d", "a", "b c b''c d"},
		{"spell:words a ' b", "a", "b '"},
		{"spell:words a don\u2019t b", "a don", "t b"},
		{"spell:words a, 'b'", "a", "b"},
		// How long a listed word is.
		{"spell:words " + long + " b", long + " b", ""},
		{"spell:words " + long + "a b", "", long + "a b " + long},
		{"spell:words b " + long + "a c", "b", long + "a c"},
		{"spell:words " + strings.Repeat("\u00e9", 32) + " b", strings.Repeat("\u00e9", 32) + " b", ""},
		{"spell:words " + strings.Repeat("\u00e9", 32) + "e b", "", "b " + strings.Repeat("\u00e9", 32)},
		{"spell:words " + strings.Repeat("a'", 32) + " b", "", "b"},
		{"spell:words " + strings.Repeat("a'", 31) + "ab c", strings.Repeat("a'", 31) + "ab c", ""},
		{"spell:words " + strings.Repeat("a", 5000) + " b", "", "a b"},
		// In whatever case; all letters of chapter 4.
		{"spell:words Foo BAR bAz", "foo bar baz Foo FOO fOO bar Bar BAR baz BaZ", "fooo"},
		{"spell:words \u00c9t\u00e9", "\u00e9t\u00e9 \u00c9T\u00c9 \u00e9T\u00e9", "ete"},
		{"spell:words \u00df \u0100 \u0391 \u042f", "\u00df \u0100 \u0391 \u042f", "ss \u0101 \u03b1 \u044f"},
		{"spell:words \u00d7 a", "", "a \u00d7"},
		{"spell:words a\u00f7b", "a", "b"},
		{"spell:words a\u0250 b", "a", "b"},
		{"spell:words e\u0301 b", "e", "b"},
		// More than once.
		{"spell:words a\nb\nspell:words c a", "a c", "b"},
		{"spell:words a spell:words b", "a spell b", "words"},
		{"spell:words a. spell:words b", "a b", "spell"},
		{"spell:words spell:words b", "spell b", "words"},
		{"spell:wordsspell:words b", "", "b spell wordsspell"},
		{"spell:words a spell:off", "a spell", "off"},
		{"spell:off spell:words a", "a", ""},
		{"spell:off\nspell:words a\nspell:on\nb", "a", "b"},
		{"spell:line spell:words a", "a", ""},
		{"spell:next\nspell:words a", "a", ""},
		{"b\nspell:words a", "a", "b"},
		{"spell:words a spell:", "a spell", ""},
		{"spell:words line off on next words", "line off on next words", "spell"},
	} {
		r := Read([]byte(c.text))
		for _, w := range strings.Fields(c.known) {
			if !r.Knows(w) {
				t.Errorf("P17.1: %q doesn't make %q known", c.text, w)
			}
		}
		for _, w := range strings.Fields(c.not) {
			if r.Knows(w) {
				t.Errorf("P17.1: %q makes %q known", c.text, w)
			}
		}
		if r.Knows("") {
			t.Errorf("P17.2: %q makes the empty word known", c.text)
		}
		holdWords(t, c.text)
	}
}

// Knows folds what it is asked: bytes that are no signs don't count.
func TestKnows(t *testing.T) {
	r := Read([]byte("// spell:words Don't, \u00c4pfel \u00df\n"))
	for _, c := range []struct {
		word string
		want bool
	}{
		{"don't", true}, {"Don't", true}, {"DON'T", true}, {"dON't", true},
		{"\xffdo\xc3n't\x80", true}, {"\xe2\x80don't", true},
		{"\u00e4pfel", true}, {"\u00c4PFEL", true}, {"\u00c4pf\xe4el", true}, {"\xc3\u00c4pfel", true},
		{"\u00df", true}, {"\u1e9e", false}, {"ss", false}, {"SS", false},
		{"", false}, {"\xff", false}, {" ", false}, {"'", false},
		{"don", false}, {"dont", false}, {"don\u2019t", false}, {"don't ", false}, {" don't", false}, {"don'ts", false},
		{"apfel", false}, {"pfel", false}, {"A\u0308pfel", false},
		{"\ufffddon't", false}, {"don't\x00", false}, {"words", false}, {"spell", false},
		{strings.Repeat("don't", 20), false},
		{strings.Repeat("a", 1<<20), false},
		{"don't" + strings.Repeat("\xff", 1<<16), true},
	} {
		if got := r.Knows(c.word); got != c.want {
			t.Errorf("P17.2: Knows(%.50q): %v", c.word, got)
		}
	}
}

func TestOff(t *testing.T) {
	for _, c := range []struct {
		text string
		off  string // a bar for each byte that isn't looked at
	}{
		{"", ""},
		{"a", "."},
		{"spell:line", "||||||||||"},
		{"a\nspell:line\nb\n", "..|||||||||||.."},
		{"spell:next\nb\nc", "...........||."},
		{"spell:next\n\xc3\xa9\nc", "...........|||."},
		{"spell:next\n\n\n", "...........|."},
		{"spell:off\n\nspell:on\n\n", "||||||||||||||||||||."},
	} {
		r := Read([]byte(c.text))
		for _, at := range places(len(c.text)) {
			want := at >= 0 && at < len(c.off) && c.off[at] == '|'
			if r.Off(at) != want {
				t.Errorf("P17.2: of %q, Off(%d): %v", c.text, at, !want)
			}
		}
		hold(t, c.text)
	}
}

func TestNothing(t *testing.T) {
	var none *Rules
	for name, r := range map[string]*Rules{"nil": none, "new": {}, "of nil": Read(nil), "of none": Read([]byte{}), "of a file that asks nothing": Read([]byte("a\nb\n"))} {
		for _, at := range places(4) {
			if r.Off(at) {
				t.Errorf("R7, P17.2: rules %s: Off(%d)", name, at)
			}
		}
		if l := r.Spans(); len(l) > 0 {
			t.Errorf("R7, P17.2: rules %s: Spans: %v", name, l)
		}
		for _, w := range []string{"", "a", "\xff"} {
			if r.Knows(w) {
				t.Errorf("R7, P17.2: rules %s: Knows(%q)", name, w)
			}
		}
	}
	if Read(nil) == nil || Read([]byte("a")) == nil {
		t.Error("P17.1: Read answers no rules")
	}
}

func TestSmallTexts(t *testing.T) {
	eachText([]string{"spell:", "off", "on", "line", "next", "words", " ", "\n", "'", "a", "B"}, 4, func(text string) { holdWords(t, text) })
	eachText([]string{"spell:off\n", "spell:on\n", "spell:line\n", "spell:next\n", "spell:", "off", "on ", "a\n", " "}, 5, func(text string) { hold(t, text) })
	eachText([]string{"spell:words", "a", "B", "'", " ", ",", "\n", "-", "\u00c9"}, 4, func(text string) { holdWords(t, text) })
	eachText([]string{"a", "B", "'", " ", ",", "\t", ".", "\u00c9"}, 5, func(text string) { hold(t, "spell:words"+text) })
	eachText([]string{"s", "p", "spel", "l", ":", "off", "ell:"}, 6, func(text string) { hold(t, text) })
}

// TestEachByte puts each byte, and each two, in every role.
func TestEachByte(t *testing.T) {
	for i := range 256 {
		c := string([]byte{byte(i)})
		for _, text := range []string{"|spell:off", "spell|:off", "spell:|off", "spell:o|f", "spell:off|", "spell:off|spell:on\na", "spell:line|on", "spell:words|a b", "spell:words a|b c", "spell:words |a", "spell:words a| b", "spell:words a'|b c", "spell:words a|'b c", "spell:next|a\nb", "|"} {
			holdWords(t, strings.ReplaceAll(text, "|", c))
		}
		for j := range 256 {
			d := c + string([]byte{byte(j)})
			hold(t, "spell:words"+d+"a")
			hold(t, "spell:off"+d+"spell:on\na")
		}
	}
}

// TestEachRune puts each rune behind and into words.
func TestEachRune(t *testing.T) {
	for r := rune(0); r <= 0x10ffff; r++ {
		if r > 0x3000 && r%7 > 0 {
			continue
		}
		s := string(r)
		text := "spell:words a" + s + "b c"
		if r < 0x3000 || r%0x400 < 4 {
			holdWords(t, text)
			hold(t, "spell:off"+s+"spell:on\n"+s)
		}
		whole := "a" + s + "b"
		if got, want := Read([]byte(text)).Knows(whole), fold.Letter(r) || r == '\''; got != want {
			t.Fatalf("P17.1: Read(%q).Knows(%q): %v", text, whole, got)
		}
	}
}

func TestRandomTexts(t *testing.T) {
	random := rand.New(rand.NewSource(17))
	pieces := []string{"spell:", "spell:off", "spell:on", "spell:line", "spell:next", "spell:words", "words", "off", "on", "a", "Foo", "don't", "'", " ", ", ", "\t", "\n", "\n", "\r\n", "\u00e9\u00c9", "\u00df", "\xff", "\xc3", "-", ":", "1", "spell", strings.Repeat("x", 63)}
	for range 20000 {
		var text strings.Builder
		for range random.Intn(25) {
			text.WriteString(pieces[random.Intn(len(pieces))])
		}
		holdWords(t, text.String())
	}
	for range 3000 {
		b := make([]byte, random.Intn(80))
		random.Read(b)
		holdWords(t, string(b))
		holdWords(t, "spell:words "+string(b))
	}
}

func TestWholeFiles(t *testing.T) {
	for _, piece := range []string{"a", "\n", "spell:", "spell:off\n", "spell:on spell:off\n", "spell:next\n\n\n", "spell:line", "spell:words ", "spell:words a b,", "spell:off\nspell:on\na\n", "'", "\u00e9", "\xff", " "} {
		text := strings.Repeat(piece, api.MaxFile/len(piece)+1)[:api.MaxFile]
		hold(t, text)
		hold(t, text+"\n")
	}
	// A line of words, none of them the same.
	var text strings.Builder
	text.WriteString("spell:words")
	for i := range 26 * 26 * 26 {
		text.WriteString(" " + string([]byte{'a' + byte(i/676), 'a' + byte(i/26%26), 'a' + byte(i%26)}))
	}
	hold(t, text.String())
	// Nor are files longer than any that redpen takes refused here.
	hold(t, strings.Repeat("a spell:next\n", api.MaxFile/4)+"spell:words "+strings.Repeat("b ", api.MaxFile)+"c")
}

// Rules keep nothing of the bytes, read none of their spare room, and answer new memory.
func TestMemory(t *testing.T) {
	all := []byte("a spell:off\nspell:words Foo'x, bar\nspell:on\nb spell:next\nc spell:line")
	before := bytes.Clone(all)
	for n := range len(all) + 1 {
		r, want := Read(all[:n]), read(string(all[:n]))
		if !slices.Equal(r.Spans(), want.spans) || len(r.known) != len(want.words) {
			t.Errorf("R8: Read(%q) with spare room: %v", all[:n], r.Spans())
		}
		if !bytes.Equal(all, before) {
			t.Fatal("R6: the bytes were changed")
		}
	}
	r := Read(all)
	other := Read(all)
	spans := r.Spans()
	clear(all)
	clear(r.Spans())
	_ = append(r.Spans()[:1], api.Span{})
	for range 2 {
		if !slices.Equal(r.Spans(), spans) || len(spans) != 4 || !r.Off(0) || r.Off(45) || !r.Knows("foo'x") || r.Knows("b") {
			t.Errorf("R6, R8: rules changed: %v", r.Spans())
		}
	}
	clear(spans)
	if !slices.Equal(r.Spans(), other.Spans()) || len(r.Spans()) != 4 || r.Spans()[0].Len != 12 {
		t.Errorf("R6: rules changed with their spans: %v", r.Spans())
	}
}

func FuzzTexts(f *testing.F) {
	f.Add("a spell:off\nb\nc spell:on\nd")
	f.Add("spell:words Foo, don't \xff\u00e9 spell:next\nspell:line")
	f.Fuzz(func(t *testing.T, text string) { holdWords(t, text) })
}
